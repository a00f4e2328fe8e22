/-
  The walk of the reference's Ends.
-/
import Derived.Test.YtpjdaenmfdcjhaaGac
import Derived.Test.YtpjdaenmfdcjhaaGad
import Derived.Test.YtpjdaenmfdcjhaaGab
import Derived.LoopTactic
import Derived.IntWalk
import Derived.Deep.OwnRows
import Derived.Laws.MakeOwn
import Derived.Deep.QuietTactic
import Derived.BigQuiet
import Derived.Lib.Hide
import Derived.Deep.DeepCutAuto
namespace Go.Proofs.Ytpjdaenmfdcjhaa
open Go.RowKit

/-- the loop's row: the ends told so far, and none too deep -/
def EndsAt (ts : List Tk.Tok) (w : World) (v4 v5 : Value) (wr : World) : Prop :=
  ∃ k : Nat, k ≤ ts.length ∧ v5 = .int .i64 k ∧ Ow 3 1 w v4 ((Ns.ends ts).take k).length (nums .i64 ((Ns.ends ts).take k)) wr ∧ Hid (∀ j, j < k → (Ns.opn ts (j + 1)).length ≤ 64)
set_option maxHeartbeats 4000000 in
set_option maxRecDepth 100000 in
theorem rends_any (ts : List Tk.Tok) (hm : ts.length ≤ 65536) (A : Option Addr) (cap : Nat) (w : World) (h : Ts w w.heap.size A ts) :
    Calls Try.prog 13 #[.slice A ts.length cap] w (EndsIs ts w) := by
  have HC : Hid (∀ (j : Nat) (W : World), j < ts.length → Below w.heap.size w W → Calls Try.prog 24 #[.slice A ts.length cap, .int .i64 ((j : Int) + 1)] W (Told .i64 (Ns.ni (Ns.opn ts (j + 1))) W)) :=
    Lib.hid fun j W hj hb => (ropen_any ts hm A cap (j + 1) hj W (h.next hb)).mono fun e w' hh => told hh
  have H := Lib.hid h
  clear h
  have hel := Ns.ends_len ts
  have HEL := Lib.hid hel
  clear hel
  go_enter Try.func13, Try.ntmps13
  go_wp2_with fail
  go_loopw [4, 5] (fun v4 v5 wr => EndsAt ts w v4 v5 wr) (fun _ v5 _ => ts.length - (RowKit.intOf v5).toNat)
  case atStart => exact ⟨0, Nat.zero_le _, rfl, Ow.start _ _ (Below.refl _ _), Lib.hid (fun j hj => by omega)⟩
  case round =>
    obtain ⟨k, hk, rfl, hown, HD⟩ := hrel
    have HO := Lib.hid hown
    clear hown
    by_cases hlt : k < ts.length
    · have CO := Lib.hid (HC.out k _ hlt HO.out.bel)
      have hol : 0 < (Ns.opn ts (k + 1)).length ∨ ¬ Ns.isO (Tk.tk ts k) := by
        by_cases hO : Ns.isO (Tk.tk ts k)
        · left; rw [Ns.opn_push hO]; simp
        · exact .inr hO
      have hnl := Ns.ni_len (Ns.opn ts (k + 1))
      have hle := Ns.opn_len ts (k + 1)
      by_cases h64 : 64 < (Ns.opn ts (k + 1)).length
      · have HV : Hid (Ns.deep ts) := Lib.hid ⟨k, hlt, h64⟩
        have d1 : decide (64 < (Ns.ni (Ns.opn ts (k + 1))).length) = true := decide_eq_true (by omega)
        have d2 : decide (64 < ((Ns.ni (Ns.opn ts (k + 1))).length : Int)) = true := decide_eq_true (by omega)
        clear h64 hnl hle hol HD
        generalize Ns.ni (Ns.opn ts (k + 1)) = ol at *
        go_wp2_with (first | (go_at_call 24; ((with_reducible refine (CO.out).mono ?_); rintro e w1 ⟨A1, c1, rfl, hc1, B1, b1⟩; have HB1 := Lib.hid (below_next HO.out.bel b1); clear b1 B1)))
        go_ret2
        exact ⟨fun h => absurd HV.out h, fun _ => ⟨rfl, HB1.out⟩⟩
      · have d1 : decide (64 < (Ns.ni (Ns.opn ts (k + 1))).length) = false := decide_eq_false (by omega)
        have d2 : decide (64 < ((Ns.ni (Ns.opn ts (k + 1))).length : Int)) = false := decide_eq_false (by omega)
        have HD2 : Hid (∀ j, j < k + 1 → (Ns.opn ts (j + 1)).length ≤ 64) := Lib.hid fun j hj => by
          by_cases e : j = k
          · subst e; omega
          · exact HD.out j (by omega)
        have HN : Hid ((Ns.ends ts).take (k + 1) = (Ns.ends ts).take k ++ [Ru.g (Ns.ends ts) k]) := Lib.hid (Ru.take_g (by rw [HEL.out]; exact hlt))
        have htl : ((Ns.ends ts).take k).length ≤ 1000000 := by have := List.length_take_le k (Ns.ends ts); omega
        obtain ⟨bb, off, rfl, hbb, hp⟩ := (H.out.next HO.out.bel) (by omega)
        obtain ⟨p0, p1, p2⟩ := hp k hlt
        clear hp
        have C : Hid (∀ W, Calls Try.prog 25 #[.agg #[.int .i64 (Tk.tk ts k).1, .string (Tk.tk ts k).2.1, .int .i64 (Tk.tk ts k).2.2]] W (Sg (Ns.clo (Tk.tk ts k)) W)) := Lib.hid fun W => rclose_any _ _ _ W
        clear HD
        by_cases hO : Ns.isO (Tk.tk ts k)
        · have he := Ns.empty_f hO
          have HLO : Hid ((Ns.ni (Ns.opn ts (k + 1))).length = (Ns.opn ts (k + 1)).length) := Lib.hid hnl
          have hlo1 : 0 < (Ns.opn ts (k + 1)).length := by rw [Ns.opn_push hO]; simp
          have HK0 := Lib.hid (Ns.known_start ts k)
          have HSI : Hid (∀ j, k ≤ j → (k ∈ Ns.opn ts (j + 1) ↔ ((Ns.opn ts (k + 1)).length ≤ (Ns.opn ts (j + 1)).length ∧ (Ns.opn ts (j + 1)).getD ((Ns.opn ts (k + 1)).length - 1) 0 = k))) := Lib.hid fun j hj => Ns.stay_iff hO hj
          have HKE : Hid (∀ e : Int, Ns.Known ts k (k + 1) e → e = Ru.g (Ns.ends ts) k) := Lib.hid fun e h => Ns.known_end hO h
          clear hO h64 hol hnl
          generalize Tk.tk ts k = u at *
          generalize Ns.clo u = cl at *
          generalize Ns.ni (Ns.opn ts (k + 1)) = ol at *
          generalize (Ns.opn ts (k + 1)).length = lo at *
          generalize (Ns.ends ts).take k = el at *
          obtain ⟨A4, c4, rfl, _⟩ := HO.out.form
          go_wp2_with (first | (go_at_call 24; ((with_reducible refine (CO.out).mono ?_); rintro e w1 ⟨A1, c1, rfl, hc1, B1, b1⟩; have HO1 := Lib.hid (HO.out.next b1); have r0 := (b1.cell (p := ⟨bb, off + k * 3, none⟩) hbb).trans p0; have r1 := (b1.cell (p := ⟨bb, off + k * 3 + 1, none⟩) hbb).trans p1; have r2 := (b1.cell (p := ⟨bb, off + k * 3 + 2, none⟩) hbb).trans p2; clear b1 B1)) | (go_at_call 25; ((with_reducible refine (C.out _).mono ?_); rintro e w2 ⟨rfl, b2⟩; have HO2 := Lib.hid (HO1.out.next b2); clear b2)))
          obtain ⟨wo, rfl⟩ : ∃ wo : World, wo = w2 := ⟨_, rfl⟩
          clear HO HO1 r0 r1 r2 p0 p1 p2 CO C he
          go_loopw [7, 8] (fun v7 v8 wi => ∃ (j : Nat) (x : Int), k ≤ j ∧ j < ts.length ∧ v8 = .int .i64 j ∧ v7 = .int .i64 x ∧ Hid (Ns.Known ts k (j + 1) x) ∧ Hid (Ow 3 1 w (.slice A4 el.length c4) el.length (nums .i64 el) wi)) (fun _ v8 _ => (RowKit.intOf v8).toNat)
          case atStart => exact ⟨ts.length - 1, ts.length, by omega, by omega, by first | rfl | (congr 1; omega), rfl, by rw [show ts.length - 1 + 1 = ts.length by omega]; exact HK0, HO2⟩
          case round =>
            obtain ⟨j, x, hj1, hj2, rfl, rfl, HX, HOi⟩ := hrel
            by_cases hjk : k < j
            · have CI := Lib.hid (HC.out j _ hj2 HOi.out.bel)
              have hln := Ns.ni_len (Ns.opn ts (j + 1))
              have HSj := Lib.hid (HSI.out j hj1)
              have hlo2 := HLO.out
              have HJ3 : Hid (j - 1 + 1 = j) := Lib.hid (by omega)
              clear HSI HKE HN HD2 HC HK0
              have hsub : IntKind.i64.wrap ((ol.length : Int) - 1) = (ol.length : Int) - 1 := IntWalk.i64_in _ (by omega)
              have hsn : ((ol.length : Int) - 1).toNat = ol.length - 1 := by omega
              have hs1 : (1 : Int) ≤ (ol.length : Int) := by omega
              by_cases hll : (Ns.opn ts (j + 1)).length < lo
              · have HV : Hid (Ns.Known ts k j j) := Lib.hid (Ns.known_new hj2 (fun h => by have := (HSj.out.1 h).1; omega))
                have d3 : decide ((Ns.ni (Ns.opn ts (j + 1))).length < ol.length) = true := decide_eq_true (by omega)
                clear HSj hln hlo2 HLO hll
                generalize Ns.ni (Ns.opn ts (j + 1)) = nl at *
                go_wp2_with (first | (go_at_call 24; ((with_reducible refine (CI.out).mono ?_); rintro e w3 ⟨A3, c3, rfl, hc3, B3, b3⟩; have HO3 := Lib.hid (HOi.out.next b3); clear B3; clear b3)))
                go_roundw
                case rel => exact ⟨j - 1, (j : Int), by omega, by omega, by first | rfl | (congr 1; omega), rfl, by rw [HJ3.out]; exact HV, HO3⟩
                case measure => simp [RowKit.intOf]; omega
              · have hg : Ru.g (Ns.ni (Ns.opn ts (j + 1))) (ol.length - 1) = (((Ns.opn ts (j + 1)).getD (lo - 1) 0 : Nat) : Int) := by rw [hlo2]; exact Ns.ni_g (by omega)
                have d3 : decide ((Ns.ni (Ns.opn ts (j + 1))).length < ol.length) = false := decide_eq_false (by omega)
                have hpos : 0 < (Ns.ni (Ns.opn ts (j + 1))).length := by omega
                have hix : ((ol.length : Int) - 1) < ((Ns.ni (Ns.opn ts (j + 1))).length : Int) := by omega
                have hix2 : ol.length - 1 < (Ns.ni (Ns.opn ts (j + 1))).length := by omega
                by_cases hv : (Ns.opn ts (j + 1)).getD (lo - 1) 0 = k
                · have hmem : k ∈ Ns.opn ts (j + 1) := HSj.out.2 ⟨by omega, hv⟩
                  have HV : Hid (Ns.Known ts k j x) := Lib.hid (Ns.known_same HX.out hmem)
                  rw [hv] at hg
                  have HG := Lib.hid hg
                  clear HSj hln hlo2 HLO hll hv hmem hg
                  generalize Ns.ni (Ns.opn ts (j + 1)) = nl at *
                  go_wp2_with (first | (go_at_call 24; ((with_reducible refine (CI.out).mono ?_); rintro e w3 ⟨A3, c3, rfl, hc3, B3, b3⟩; have HO3 := Lib.hid (HOi.out.next b3); obtain ⟨b3b, o3, rfl, hb3, hp3⟩ := B3 hpos; have c3g := hp3 (ol.length - 1) hix2; rw [HG.out] at c3g; clear hp3 B3; clear b3)))
                  go_roundw
                  case rel => exact ⟨j - 1, x, by omega, by omega, by first | rfl | (congr 1; omega), rfl, by rw [HJ3.out]; exact HV, HO3⟩
                  case measure => simp [RowKit.intOf]; omega
                · have HV : Hid (Ns.Known ts k j j) := Lib.hid (Ns.known_new hj2 (fun h => hv (HSj.out.1 h).2))
                  have hb1 : ((((Ns.opn ts (j + 1)).getD (lo - 1) 0 : Nat) : Int) != (k : Int)) = true := Ru.ne_t (by omega)
                  have hb2 : (((Ns.opn ts (j + 1)).getD (lo - 1) 0) != k) = true := by simpa using hv
                  have HG := Lib.hid hg
                  clear HSj hln hlo2 HLO hll hg hv
                  generalize (Ns.opn ts (j + 1)).getD (lo - 1) 0 = y at *
                  generalize Ns.ni (Ns.opn ts (j + 1)) = nl at *
                  go_wp2_with (first | (go_at_call 24; ((with_reducible refine (CI.out).mono ?_); rintro e w3 ⟨A3, c3, rfl, hc3, B3, b3⟩; have HO3 := Lib.hid (HOi.out.next b3); obtain ⟨b3b, o3, rfl, hb3, hp3⟩ := B3 hpos; have c3g := hp3 (ol.length - 1) hix2; rw [HG.out] at c3g; clear hp3 B3; clear b3)))
                  go_roundw
                  case rel => exact ⟨j - 1, (j : Int), by omega, by omega, by first | rfl | (congr 1; omega), rfl, by rw [HJ3.out]; exact HV, HO3⟩
                  case measure => simp [RowKit.intOf]; omega
            · obtain rfl : j = k := by omega
              have HE := Lib.hid (HKE.out x HX.out)
              go_wp2_with (first | (at_builtin; refine app_int rfl _ _ rfl rfl HOi.out x _ _ rfl htl ?_; intro v' w3 H3; have HO3 := Lib.hid H3; clear H3))
              go_roundw
              case rel => exact ⟨j + 1, by omega, by go_num, by rw [HN.out, ← HE.out]; exact HO3.out, HD2⟩
              case measure => simp [RowKit.intOf]; omega
        · have hcn := Ns.clo_none hO
          have HE := Lib.hid (Ns.ends_none hlt hO)
          rw [hcn] at C
          clear hcn hO h64 hol hnl hle
          generalize Tk.tk ts k = u at *
          generalize Ns.ni (Ns.opn ts (k + 1)) = ol at *
          generalize (Ns.ends ts).take k = el at *
          go_wp2_with (first | (go_at_call 24; ((with_reducible refine (CO.out).mono ?_); rintro e w1 ⟨A1, c1, rfl, hc1, B1, b1⟩; have HO1 := Lib.hid (HO.out.next b1); have r0 := (b1.cell (p := ⟨bb, off + k * 3, none⟩) hbb).trans p0; have r1 := (b1.cell (p := ⟨bb, off + k * 3 + 1, none⟩) hbb).trans p1; have r2 := (b1.cell (p := ⟨bb, off + k * 3 + 2, none⟩) hbb).trans p2; clear b1 B1)) | (go_at_call 25; ((with_reducible refine (C.out _).mono ?_); rintro e w2 ⟨rfl, b2⟩; have HO2 := Lib.hid (HO1.out.next b2); clear b2)) | (at_builtin; refine app_int rfl _ _ rfl rfl HO2.out (-1) _ _ rfl htl ?_; intro v' w3 H3; have HO3 := Lib.hid H3; clear H3))
          go_roundw
          case rel => exact ⟨k + 1, by omega, by go_num, by rw [HN.out, HE.out]; exact HO3.out, HD2⟩
          case measure => simp [RowKit.intOf]; omega
    · obtain rfl : k = ts.length := by omega
      have HT : Hid ((Ns.ends ts).take ts.length = Ns.ends ts) := Lib.hid (List.take_of_length_le (by rw [HEL.out]; exact Nat.le_refl _))
      go_wp2_with fail
      go_ret2
      exact ⟨fun _ => ⟨_, rfl, by have := HO.out.own; rw [HT.out] at this; exact this, HO.out.bel⟩, fun ⟨j, h1, h2⟩ => by have := HD.out j h1; omega⟩
end Go.Proofs.Ytpjdaenmfdcjhaa

/-
  The walk of the law's Few.
-/
namespace Go.Proofs.Ytpjdaenmfdcjhaa
open Go.RowKit

set_option maxHeartbeats 4000000 in
set_option maxRecDepth 100000 in
theorem few_any (us : List Tk.Tok) (hn : us.length ≤ 9223372036854775807) (b : Bool) (hb : b = true ↔ Pr.Fair us) (A : Option Addr) (cap : Nat) (w : World) (h : Ts w w.heap.size A us) :
    Calls Try.prog 10 #[.slice A us.length cap] w fun e w' => e = .returned (.bool b) ∧ w = w' := by
  have H := Lib.hid h
  have HB := Lib.hid hb
  clear h hb
  go_enter Try.func10, Try.ntmps10
  go_wp2_with fail
  go_loopw [3] (fun v3 wr => ∃ k : Nat, k ≤ us.length ∧ k ≤ 101 ∧ v3 = .int .i64 k ∧ Hid (∀ j, j < k → (Tk.tk us j).2.1.size ≤ 100) ∧ wr = w) (fun v3 _ => 101 - (RowKit.intOf v3).toNat)
  case atStart => exact ⟨0, Nat.zero_le _, by omega, rfl, Lib.hid (fun j hj => by omega), rfl⟩
  case round =>
    obtain ⟨k, hk, hk1, rfl, HK, rfl⟩ := hrel
    by_cases hlt : k < us.length
    · have d1 : decide (k < us.length) = true := decide_eq_true hlt
      by_cases h100 : k ≤ 100
      · have d2 : decide ((k : Int) ≤ 100) = true := decide_eq_true (by omega)
        have d2' : decide (k ≤ 100) = true := decide_eq_true h100
        obtain ⟨bb, off, rfl, hbb, hp⟩ := H.out (by omega)
        obtain ⟨_, p1, _⟩ := hp k hlt
        clear hp
        have HN : Hid (¬ (Tk.tk us k).2.1.size ≤ 100 → b = false) := Lib.hid (fun hx => by
          cases b with
          | false => rfl
          | true => exact absurd ((HB.out.1 rfl).2 k hlt) hx)
        have HS : Hid ((Tk.tk us k).2.1.size ≤ 100 → ∀ j, j < k + 1 → (Tk.tk us j).2.1.size ≤ 100) := Lib.hid (fun hx j hj => by
          by_cases e : j = k
          · subst e; exact hx
          · exact HK.out j (by omega))
        generalize (Tk.tk us k).2.1 = t at *
        by_cases hz : t.size ≤ 100
        · have d3 : decide (100 < (t.size : Int)) = false := decide_eq_false (by omega)
          have d3' : decide (100 < t.size) = false := decide_eq_false (by omega)
          have HV := Lib.hid (HS.out hz)
          clear HN HS hz
          have hwr : IntKind.i64.wrap ((k : Int) + 1) = (k : Int) + 1 := IntWalk.i64_in _ (by omega)
          go_wp2_with fail
          clear hwr
          go_roundw
          case rel => exact ⟨k + 1, hlt, by omega, by go_num, HV, trivial⟩
          case measure => simp [RowKit.intOf]; omega
        · have d3 : decide (100 < (t.size : Int)) = true := decide_eq_true (by omega)
          have d3' : decide (100 < t.size) = true := decide_eq_true (by omega)
          have HV := Lib.hid (HN.out hz)
          clear HN HS hz
          go_wp2_with fail
          go_ret
          exact ⟨by rw [HV.out]; rfl, rfl⟩
      · have d2 : decide ((k : Int) ≤ 100) = false := decide_eq_false (by omega)
        have d2' : decide (k ≤ 100) = false := decide_eq_false h100
        have d4 : decide ((us.length : Int) ≤ 100) = false := decide_eq_false (by omega)
        have d4' : decide (us.length ≤ 100) = false := decide_eq_false (by omega)
        have HV : Hid (b = false) := Lib.hid (by
          cases b with
          | false => rfl
          | true => have := (HB.out.1 rfl).1; omega)
        clear HB
        go_wp2_with fail
        go_ret
        exact ⟨by rw [HV.out]; rfl, rfl⟩
    · have d1 : decide (k < us.length) = false := decide_eq_false hlt
      by_cases hl : us.length ≤ 100
      · have d4 : decide ((us.length : Int) ≤ 100) = true := decide_eq_true (by omega)
        have d4' : decide (us.length ≤ 100) = true := decide_eq_true (by omega)
        have HV : Hid (b = true) := Lib.hid (HB.out.2 ⟨hl, fun j hj => HK.out j (by omega)⟩)
        clear HB
        go_wp2_with fail
        go_ret
        exact ⟨by rw [HV.out]; rfl, rfl⟩
      · have d4 : decide ((us.length : Int) ≤ 100) = false := decide_eq_false (by omega)
        have d4' : decide (us.length ≤ 100) = false := decide_eq_false (by omega)
        have HV : Hid (b = false) := Lib.hid (by
          cases b with
          | false => rfl
          | true => have := (HB.out.1 rfl).1; omega)
        clear HB
        go_wp2_with fail
        go_ret
        exact ⟨by rw [HV.out]; rfl, rfl⟩
end Go.Proofs.Ytpjdaenmfdcjhaa

/-
  What is asked of the functions of package nest, as contracts: whatever their text.
-/
namespace Go.Proofs.Ytpjdaenmfdcjhaa
open Go.RowKit

namespace Ns
def okp (ts : List Tk.Tok) (fr tz : Int) : Prop := 0 ≤ fr ∧ fr ≤ tz ∧ tz ≤ ts.length
instance (ts : List Tk.Tok) (fr tz : Int) : Decidable (okp ts fr tz) := by unfold okp; infer_instance
def fndR (ts : List Tk.Tok) (fr tz kd : Int) : Int := if okp ts fr tz then fnd (isK ts kd) (plc (ends ts) tz.toNat fr.toNat) else -1
def splR (ts : List Tk.Tok) (fr tz kd : Int) : List (Nat × Nat) := if okp ts fr tz then spl (isK ts kd) tz.toNat (plc (ends ts) tz.toNat fr.toNat) fr.toNat else []
def trR (ts : List Tk.Tok) (fr tz : Int) : Int × Int := if okp ts fr tz then ((trA ts tz.toNat fr.toNat : Nat), (trB ts (trA ts tz.toNat fr.toNat) tz.toNat : Nat)) else (fr, tz)
end Ns
def EndsC : Prop := ∀ (ts : List Tk.Tok), ts.length ≤ 1000 → ∀ (A : Option Addr) (cap : Nat), ts.length ≤ cap → ∀ w, Ts w w.heap.size A ts → Calls Try.prog 12 #[.slice A ts.length cap] w (EndsIs ts w)
def SkipC : Prop := ∀ (es : List Int), Ns.Fit es → Ns.Lead es → ∀ (A : Option Addr) (cap : Nat) (a : Int), (-1152921504606846976 ≤ a ∧ a ≤ 1152921504606846976) → ∀ w, Bs w w.heap.size .i64 A es → Calls Try.prog 22 #[.slice A es.length cap, .int .i64 a] w (Nu (Ns.skp es a) w)
def SplitC : Prop := ∀ (ts : List Tk.Tok), ts.length ≤ 1000 → ∀ (A C : Option Addr) (ca cc : Nat), ts.length ≤ ca → (Ns.ends ts).length ≤ cc → ∀ (fr tz kd : Int), I64 fr → I64 tz → ∀ w, Ts w w.heap.size A ts → Bs w w.heap.size .i64 C (Ns.ends ts) →
  Calls Try.prog 17 #[.slice A ts.length ca, .slice C (Ns.ends ts).length cc, .int .i64 fr, .int .i64 tz, .int .i64 kd] w (ToldP (Ns.splR ts fr tz kd) w)
def TrimC : Prop := ∀ (ts : List Tk.Tok), ts.length ≤ 1000 → ∀ (A : Option Addr) (ca : Nat), ts.length ≤ ca → ∀ (fr tz : Int), I64 fr → I64 tz → ∀ w, Ts w w.heap.size A ts →
  Calls Try.prog 18 #[.slice A ts.length ca, .int .i64 fr, .int .i64 tz] w (Tw (Ns.trR ts fr tz).1 (Ns.trR ts fr tz).2 w)
/-- the law's own closure: a token is of the kind -/
abbrev isKV (bk : Nat) : Value := .func (Fn.func 15) #[] #[.pointer (some ⟨bk, 0, none⟩)]
def FindC : Prop := ∀ (ts : List Tk.Tok), ts.length ≤ 1000 → ∀ (A C : Option Addr) (ca cc : Nat), ts.length ≤ ca → (Ns.ends ts).length ≤ cc → ∀ (fr tz kd : Int), I64 fr → I64 tz → ∀ (bk : Nat) w, bk < w.heap.size → w.cell? ⟨bk, 0, none⟩ = some (.int .i64 kd) → Ts w w.heap.size A ts → Bs w w.heap.size .i64 C (Ns.ends ts) →
  Calls Try.prog 16 #[.slice A ts.length ca, .slice C (Ns.ends ts).length cc, .int .i64 fr, .int .i64 tz, isKV bk] w (Nu (Ns.fndR ts fr tz kd) w)
/-- what all laws lean on -/
structure NestC : Prop where
  ends : EndsC
  skip : SkipC
  split : SplitC
  trim : TrimC
  find : FindC
end Go.Proofs.Ytpjdaenmfdcjhaa

/-
  The walks of the law's awake and of NestEnds.
-/
namespace Go.Proofs.Ytpjdaenmfdcjhaa
open Go.RowKit

namespace Ns
def awk : List Tk.Tok := [(12, ⟨#[40]⟩, 0), (12, ⟨#[91]⟩, 0), (13, ⟨#[41]⟩, 0), (13, ⟨#[93]⟩, 0)]
theorem awk_ends : ends awk = [4, 3, -1, -1] := by decide
theorem awk_deep : ¬ deep awk := by
  rintro ⟨k, hk, h⟩
  have := opn_len awk (k + 1)
  have : awk.length = 4 := rfl
  omega
theorem awk_split : (splR awk 0 4 16).length = 1 := by
  have h : splR awk 0 4 16 = spl (isK awk 16) 4 (plc (ends awk) 4 0) 0 := if_pos (by decide)
  rw [h, plc_on (by decide), show sk (ends awk) 0 = 4 by decide, plc_end (by decide)]
  decide
end Ns
theorem awk_ts (w : World) (E : TypeId) : Ts (w.alloc (.cells #[.int .i64 12, .string ⟨#[40]⟩, .int .i64 0, .int .i64 12, .string ⟨#[91]⟩, .int .i64 0, .int .i64 13, .string ⟨#[41]⟩, .int .i64 0, .int .i64 13, .string ⟨#[93]⟩, .int .i64 0] E)) (w.alloc (.cells #[.int .i64 12, .string ⟨#[40]⟩, .int .i64 0, .int .i64 12, .string ⟨#[91]⟩, .int .i64 0, .int .i64 13, .string ⟨#[41]⟩, .int .i64 0, .int .i64 13, .string ⟨#[93]⟩, .int .i64 0] E)).heap.size (some ⟨w.heap.size, 0, none⟩) Ns.awk := fun _ => by
  refine ⟨w.heap.size, 0, rfl, by simp, fun j hj => ?_⟩
  have hj : j < 4 := hj
  have h4 : j = 0 ∨ j = 1 ∨ j = 2 ∨ j = 3 := by omega
  rcases h4 with rfl | rfl | rfl | rfl <;> refine ⟨?_, ?_, ?_⟩ <;> (rw [World.cell?_alloc_mark]; rfl)
set_option maxHeartbeats 4000000 in
set_option maxRecDepth 100000 in
theorem lawake_any (N : NestC) (w : World) : Calls Try.prog 11 #[] w (Bo true w) := by
  obtain ⟨W0, hW⟩ : ∃ W0, W0 = w.alloc (.cells #[.int .i64 12, .string ⟨#[40]⟩, .int .i64 0, .int .i64 12, .string ⟨#[91]⟩, .int .i64 0, .int .i64 13, .string ⟨#[41]⟩, .int .i64 0, .int .i64 13, .string ⟨#[93]⟩, .int .i64 0] 31) := ⟨_, rfl⟩
  have hb0 : Below w.heap.size w W0 := by rw [hW]; exact (Below.refl _ _).alloc (Nat.le_refl _) _
  have hT : Ts W0 W0.heap.size (some ⟨w.heap.size, 0, none⟩) Ns.awk := by rw [hW]; exact awk_ts w _
  have HB0 := Lib.hid hb0
  have HW := Lib.hid hW.symm
  have HT := Lib.hid hT
  have hfit : Ns.Fit (Ns.ends Ns.awk) := Ns.ends_fit (by decide)
  have CE : Hid (Calls Try.prog 12 #[.slice (some ⟨w.heap.size, 0, none⟩) 4 4] W0 (EndsRd Ns.awk W0)) := Lib.hid ((N.ends Ns.awk (by decide) _ 4 (by decide) W0 hT).mono fun e w' h => ends_rd (h.1 Ns.awk_deep))
  have CK : Hid (∀ (C : Option Addr) (cc : Nat) (a : Int) (W : World), (a = 0 ∨ a = 1) → Bs W W.heap.size .i64 C (Ns.ends Ns.awk) → Calls Try.prog 22 #[.slice C (Ns.ends Ns.awk).length cc, .int .i64 a] W (Nu 4 W)) := Lib.hid fun C cc a W ha hB => by
    have h := N.skip (Ns.ends Ns.awk) hfit (Ns.ends_lead _) C cc a (by omega) W hB
    rcases ha with rfl | rfl
    · exact h
    · exact h
  have CS : Hid (∀ (C : Option Addr) (cc : Nat) (W : World), 4 ≤ cc → Below W0.heap.size W0 W → Bs W W.heap.size .i64 C (Ns.ends Ns.awk) → Calls Try.prog 17 #[.slice (some ⟨w.heap.size, 0, none⟩) 4 4, .slice C (Ns.ends Ns.awk).length cc, .int .i64 0, .int .i64 4, .int .i64 16] W (ToldP (Ns.splR Ns.awk 0 4 16) W)) := Lib.hid fun C cc W hcc hb hB =>
    N.split Ns.awk (by decide) _ C 4 cc (by decide) hcc 0 4 16 (by unfold I64; omega) (by unfold I64; omega) W (HT.out.next hb) hB
  have HSL := Lib.hid Ns.awk_split
  clear hb0 hW hT hfit N HT
  have e4 : (Ns.ends Ns.awk).length = 4 := rfl
  have HE4 := Lib.hid e4
  clear e4
  go_enter Try.func11, Try.ntmps11
  go_upto_region 2 with fail
  rw [HW.out]
  clear HW
  generalize Ns.splR Ns.awk 0 4 16 = sp at *
  go_upto_region 3 with (first | (go_at_call 12; ((with_reducible refine (CE.out).mono ?_); rintro e w1 ⟨A1, c1, rfl, hc1, B1, b1⟩; have HB1 := Lib.hid b1; have HBs := Lib.hid B1; obtain ⟨bb, off, rfl, hbb, hp⟩ := B1 (by decide); have p0 := hp 0 (by decide); have p1 := hp 1 (by decide); have p2 := hp 2 (by decide); rw [Nat.add_zero] at p0; clear b1 B1 CE hp)))
  have tok1 : True := trivial
  go_wp2_with (first | (go_at_call 22; have _t := tok1; ((with_reducible refine (CK.out _ _ _ _ (.inl rfl) HBs.out).mono ?_); rintro e w2 ⟨rfl, b2⟩; have HB2 := Lib.hid b2; have HBs2 := Lib.hid (HBs.out.next b2); clear b2 tok1)) | (go_at_call 22; ((with_reducible refine (CK.out _ _ _ _ (.inr rfl) HBs2.out).mono ?_); rintro e w3 ⟨rfl, b3⟩; have HB3 := Lib.hid (below_next HB1.out (below_next HB2.out b3)); have HBs3 := Lib.hid (HBs2.out.next b3); clear b3)) | (go_at_call 17; ((with_reducible refine (CS.out _ _ _ hc1 HB3.out HBs3.out).mono ?_); rintro e w4 ⟨A4, c4, rfl, hc4, B4, b4⟩; have HB4 := Lib.hid (below_next HB3.out b4); rw [HSL.out]; clear b4 B4)))
  go_ret
  exact ⟨rfl, below_next HB0.out HB4.out⟩
set_option maxHeartbeats 4000000 in
set_option maxRecDepth 100000 in
theorem nends_any (N : NestC) (us : List Tk.Tok) (hn : us.length ≤ 9223372036854775807) (A : Option Addr) (cap : Nat) (hc : us.length ≤ cap) (w : World) (h : Ts w w.heap.size A us) :
    Calls Try.prog 3 #[.slice A us.length cap] w (Bo true w) := by
  have CA : Hid (∀ W, Calls Try.prog 11 #[] W (Bo true W)) := Lib.hid (lawake_any N)
  by_cases hF : Pr.Fair us
  · have CF := Lib.hid (few_any us hn true (by simp [hF]) A cap w h)
    have CE := Lib.hid (N.ends us (by have := hF.1; omega) A cap hc w h)
    have CR : Hid (∀ W, Below w.heap.size w W → Calls Try.prog 13 #[.slice A us.length cap] W (EndsIs us W)) := Lib.hid fun W hb => rends_any us (by have := hF.1; omega) A cap W (h.next hb)
    have hel := Ns.ends_len us
    have hm := hF.1
    by_cases hd : Ns.deep us
    · have CE2 := Lib.hid (CE.out.mono fun e w' h => h.2 hd)
      have CR2 : Hid (∀ W, Below w.heap.size w W → Calls Try.prog 13 #[.slice A us.length cap] W (EndsBad W)) := Lib.hid fun W hb => (CR.out W hb).mono fun e w' h => h.2 hd
      have CS : Hid (∀ W, Calls Try.prog 14 #[.slice none 0 0, .slice none 0 0] W (Yes W)) := Lib.hid fun W => lsame_any [] none none 0 0 W (by simp) Bs.nil Bs.nil
      clear CE CR hd hF h hel
      go_enter Try.func3, Try.ntmps3
      go_wp2_with (first | (go_at_call 10; ((with_reducible refine (CF.out).mono ?_); rintro e w1 ⟨rfl, rfl⟩)) | (go_at_call 12; ((with_reducible refine (CE2.out).mono ?_); rintro e w2 ⟨rfl, b2⟩; have HB2 := Lib.hid b2; clear b2)) | (go_at_call 13; ((with_reducible refine (CR2.out _ HB2.out).mono ?_); rintro e w3 ⟨rfl, b3⟩; have HB3 := Lib.hid (below_next HB2.out b3); clear b3)) | (go_at_call 14; ((with_reducible refine (CS.out _).mono ?_); rintro e w4 ⟨rfl, b4⟩; have HB4 := Lib.hid (below_next HB3.out b4); clear b4)) | (go_at_call 11; ((with_reducible refine (CA.out _).mono ?_); rintro e w5 ⟨rfl, b5⟩; have HB5 := Lib.hid (below_next HB4.out b5); clear b5)))
      go_ret
      exact ⟨rfl, HB5.out⟩
    · have CE2 := Lib.hid (CE.out.mono fun e w' h => ends_rd (h.1 hd))
      have CR2 : Hid (∀ W, Below w.heap.size w W → Calls Try.prog 13 #[.slice A us.length cap] W (EndsRd us W)) := Lib.hid fun W hb => (CR.out W hb).mono fun e w' h => ends_rd (h.1 hd)
      have CS : Hid (∀ (C D : Option Addr) (cc cd : Nat) (W : World), Bs W W.heap.size .i64 C (Ns.ends us) → Bs W W.heap.size .i64 D (Ns.ends us) → Calls Try.prog 14 #[.slice C (Ns.ends us).length cc, .slice D (Ns.ends us).length cd] W (Yes W)) := Lib.hid fun C D cc cd W h1 h2 => lsame_any _ C D cc cd W (by omega) h1 h2
      clear CE CR hd hF h hel
      go_enter Try.func3, Try.ntmps3
      go_wp2_with (first | (go_at_call 10; ((with_reducible refine (CF.out).mono ?_); rintro e w1 ⟨rfl, rfl⟩)) | (go_at_call 12; ((with_reducible refine (CE2.out).mono ?_); rintro e w2 ⟨A2, c2, rfl, hc2, B2, b2⟩; have HB2 := Lib.hid b2; have HS2 := Lib.hid B2; clear b2 B2)) | (go_at_call 13; ((with_reducible refine (CR2.out _ HB2.out).mono ?_); rintro e w3 ⟨A3, c3, rfl, hc3, B3, b3⟩; have HB3 := Lib.hid (below_next HB2.out b3); have HS3 := Lib.hid (HS2.out.next b3); have HS4 := Lib.hid B3; clear b3 B3)) | (go_at_call 14; ((with_reducible refine (CS.out _ _ _ _ _ HS3.out HS4.out).mono ?_); rintro e w4 ⟨rfl, b4⟩; have HB4 := Lib.hid (below_next HB3.out b4); clear b4)) | (go_at_call 11; ((with_reducible refine (CA.out _).mono ?_); rintro e w5 ⟨rfl, b5⟩; have HB5 := Lib.hid (below_next HB4.out b5); clear b5)))
      go_ret
      exact ⟨rfl, HB5.out⟩
  · have CF := Lib.hid (few_any us hn false (by simp [hF]) A cap w h)
    clear hF h
    go_enter Try.func3, Try.ntmps3
    go_wp2_with (first | (go_at_call 10; ((with_reducible refine (CF.out).mono ?_); rintro e w1 ⟨rfl, rfl⟩)) | (go_at_call 11; ((with_reducible refine (CA.out _).mono ?_); rintro e w5 ⟨rfl, b5⟩; have HB5 := Lib.hid b5; clear b5)))
    go_ret
    exact ⟨rfl, HB5.out⟩
end Go.Proofs.Ytpjdaenmfdcjhaa

/-
  Words for nest's Ends: a row of places beside a row of the call's own. No run of the program in this text.
-/
namespace Go.Proofs.Ytpjdaenmfdcjhaa
open Go.RowKit

/-- block b reads as es; v is the call's own row of op, in a block from B on -/
structure En (B b : Nat) (w : World) (es : List Int) (v : Value) (op : List Int) (wr : World) : Prop where
  own : wr.ownsRow B 3 1 v op.length (nums .i64 op)
  row : wr.heap[b]? = some (.cells (nums .i64 es).toArray 3 (0, 0))
  bel : Below w.heap.size w wr
  new : w.heap.size ≤ b
  lt : b < B
  siz : B ≤ wr.heap.size
section
variable {B b : Nat} {w wr w1 : World} {es op : List Int} {v : Value}
theorem En.next (h : En B b w es v op wr) (hb : Below wr.heap.size wr w1) : En B b w es v op w1 :=
  ⟨kept_below h.own hb (Nat.le_refl _), (hb.block b (Nat.lt_of_lt_of_le h.lt h.siz)).trans h.row, below_next h.bel hb, h.new, h.lt, Nat.le_trans h.siz hb.size⟩
theorem En.drewN (h : En B b w es v op wr) (n : Nat) : En B b w es v op (wr.drewN n) := ⟨h.own, h.row, below_drewN h.bel n, h.new, h.lt, h.siz⟩
theorem En.cell (h : En B b w es v op wr) {j : Nat} (hj : j < es.length) : wr.cell? ⟨b, j, none⟩ = some (.int .i64 (Ru.g es j)) := by
  rw [cell_of_row wr b j _ 3 (0, 0) h.row, List.getElem?_toArray]
  exact nums_get hj
theorem En.free (h : En B b w es v op wr) (j : Nat) : wr.frozen? ⟨b, j, none⟩ = false := by simp [World.frozen?, h.row]
theorem En.set_ (h : En B b w es v op wr) (j : Nat) (y : Int) : En B b w (es.set j y) v op (wr.setCell ⟨b, j, none⟩ (.int .i64 y)) := by
  refine ⟨?_, ?_, h.bel.setCell h.new _, h.new, h.lt, ?_⟩
  · refine ⟨h.own.1, ?_⟩
    rcases h.own.2 with h1 | ⟨g, cap, cur, hv, hg, hh, rest⟩
    · exact .inl h1
    · exact .inr ⟨g, cap, cur, hv, hg, (Below.heap_setCell wr _ _ g (fun e => by have := h.lt; have e2 : g = b := e; omega)).trans hh, rest⟩
  · have hr := h.row
    unfold World.setCell
    simp [Array.getElem?_modify, hr, nums, List.map_set]
  · have := h.siz; simpa [World.setCell] using this
theorem En.cut {A : Option Addr} {n cap : Nat} (hn : n = op.length) (h : En B b w es (.slice A n cap) op wr) {m : Nat} (hm : m ≤ n) : En B b w es (.slice A m cap) (op.take m) wr := by
  subst hn
  have h1 := own_cut h.own hm
  rw [Nat.mul_one, ← nums_take] at h1
  have e : (op.take m).length = m := by rw [List.length_take]; exact Nat.min_eq_left hm
  exact ⟨by rw [e]; exact h1, h.row, h.bel, h.new, h.lt, h.siz⟩
theorem En.form (h : En B b w es v op wr) : ∃ (A : Option Addr) (cap : Nat), v = .slice A op.length cap ∧ op.length ≤ cap := by
  rcases h.own.2 with ⟨rfl, h0⟩ | ⟨x, cap, cur, rfl, _, _, hc, _⟩
  · exact ⟨none, 0, by rw [h0], by omega⟩
  · exact ⟨_, cap, rfl, hc⟩
theorem En.at_ (h : En B b w es v op wr) (h0 : 0 < op.length) : ∃ g cap, v = .slice (some ⟨g, 0, none⟩) op.length cap ∧ op.length ≤ cap ∧ g < wr.heap.size ∧ ∀ j, j < op.length → wr.cell? ⟨g, j, none⟩ = some (.int .i64 (Ru.g op j)) := by
  rcases h.own.2 with ⟨_, h1⟩ | ⟨x, cap, cur, rfl, hg, hh, hc, _⟩
  · omega
  · refine ⟨x, cap, rfl, hc, (Array.getElem?_eq_some_iff.1 hh).1, fun j hj => ?_⟩
    have := h.own.cells (g := x) rfl j _ (nums_get (k := .i64) hj)
    rwa [Addr.add_lit, Nat.zero_add] at this
theorem En.app {ops : Array Oper} {rest : List Oper} {o : Oper} {a : Act} {Q : Exit → Act → World → Prop} (hgd : o.guard = none) (s x : Operand)
    (ho : o.op = .call { callee := .builtin .append, args := #[s, x], argTypes := #[25, 25] }) (hs : a.eval s = v) (H : En B b w es v op wr) (y : Int) (c : Nat) (E' : TypeId)
    (hx : a.eval x = .slice (some ⟨wr.heap.size, 0, none⟩) 1 c) (hm : op.length ≤ 1000000)
    (h : ∀ v' w3, En B b w es v' (op ++ [y]) w3 → wpList Try.prog ops Q rest (a.put o.dst v') w3) : wpList Try.prog ops Q (o :: rest) a (wr.alloc (.cells #[.int .i64 y] E')) := by
  obtain ⟨i0, hi, hz0, hz1, hz2⟩ := info_parts Try.info3
  refine wpList_append_own _ hgd s x 25 ho B 3 i0 (.int .i64 0) 1 8 Try.underlying25 hi hz0 hz1 hz2 rfl (by decide) v op.length (nums .i64 op) hs (H.own.alloc _) ⟨wr.heap.size, 0, none⟩ 1 c [.int .i64 y] hx (by simp) (fun j u hj => ?_) (one_ok _) (by unfold maxLen; omega) (by omega) (Nat.le_trans H.siz (by simp)) ?_
  · rw [Addr.add_lit, Nat.zero_add, World.cell?_alloc_mark]
    simpa using hj
  · intro v' w3 hown hg _
    refine h v' w3 ⟨?_, ?_, ?_, H.new, H.lt, ?_⟩
    · rw [List.length_append, nums_app]; exact hown
    · have hlt : b < wr.heap.size := Nat.lt_of_lt_of_le H.lt H.siz
      refine (hg.block b (by simp; omega) (fun e => ?_)).trans ((Below.heap_alloc wr _ b hlt).trans H.row)
      have := (H.own.lt b e.symm).1
      have := H.lt
      omega
    · refine (H.bel.alloc H.bel.size _).grown hg (by have := H.bel.size; simp; omega) (fun j hj => ?_)
      have h1 := (H.own.lt j hj).1
      have h2 := H.bel.size
      have h3 := H.lt
      have h4 := H.new
      omega
    · have := hg.size
      have := H.siz
      simp at *
      omega
theorem En.told {n : Nat} (hn : es.length = n) (hm : n ≤ 1000000) (h : En B b w es v op wr) : wr.ownsRow w.heap.size 3 1 (.slice (some ⟨b, 0, none⟩) n n) es.length (nums .i64 es) := by
  subst hn
  refine ⟨by rw [nums_len, Nat.mul_one], .inr ⟨b, es.length, _, rfl, h.new, h.row, Nat.le_refl _, by unfold maxLen; omega, by simp [nums_len], ?_⟩⟩
  rw [Nat.mul_one, List.toList_toArray, List.take_of_length_le (by rw [nums_len]; exact Nat.le_refl _)]
end
theorem made_zero (n : Nat) : madeCells #[Value.int .i64 0] n = (nums .i64 (List.replicate n 0)).toArray := by
  unfold madeCells nums
  apply Array.ext
  · simp
  · intro i h1 h2
    simp [Nat.mod_one]
namespace Ns
open Tk
/-- the row of Ends when the tokens up to a place have been gone through: what comes is 0 -/
def enZ (ts : List Tok) (k : Nat) : List Int := enF ts k ++ List.replicate (ts.length - k) 0
theorem enZ_len {ts : List Tok} {k : Nat} (h : k ≤ ts.length) : (enZ ts k).length = ts.length := by unfold enZ; rw [List.length_append, enF_len, List.length_replicate]; omega
theorem enZ_end (ts : List Tok) : enZ ts ts.length = ends ts := by unfold enZ; rw [Nat.sub_self]; simp [ends]
theorem rep_set {n : Nat} (h : 0 < n) (y : Int) : (List.replicate n (0 : Int)).set 0 y = y :: List.replicate (n - 1) 0 := by
  obtain ⟨m, rfl⟩ : ∃ m, n = m + 1 := ⟨n - 1, by omega⟩
  rfl
theorem enZ_mark {ts : List Tok} {k : Nat} (h : k < ts.length) (y : Int) : (enZ ts k).set k y = enF ts k ++ y :: List.replicate (ts.length - (k + 1)) 0 := by
  unfold enZ
  rw [List.set_append_right _ _ (by rw [enF_len]; exact Nat.le_refl _), enF_len, Nat.sub_self, rep_set (by omega)]
  congr 3
theorem enZ_push {ts : List Tok} {k : Nat} (h : k < ts.length) (hO : isO (tk ts k)) : ((enZ ts k).set k (-1)).set k (ts.length : Int) = enZ ts (k + 1) := by
  rw [List.set_set, enZ_mark h]
  unfold enZ
  rw [enF_push hO, List.append_assoc]; rfl
theorem enZ_keep {ts : List Tok} {k : Nat} (h : k < ts.length) (hO : ¬ isO (tk ts k)) (hc : ¬ closes ts (opn ts k) k) : (enZ ts k).set k (-1) = enZ ts (k + 1) := by
  rw [enZ_mark h]
  unfold enZ
  rw [enF_keep hO hc, List.append_assoc]; rfl
theorem enZ_pop {ts : List Tok} {k : Nat} (h : k < ts.length) (hc : closes ts (opn ts k) k) : ((enZ ts k).set k (-1)).set (top (opn ts k)) (k : Int) = enZ ts (k + 1) := by
  have ht : top (opn ts k) < k := opn_lt (top_mem hc.2.1)
  rw [enZ_mark h]
  unfold enZ
  rw [enF_pop hc, List.append_assoc, List.set_append_left _ _ (by rw [enF_len]; exact ht)]; rfl
end Ns
end Go.Proofs.Ytpjdaenmfdcjhaa

/-
  The walk of nest's closing.
-/
namespace Go.Proofs.Ytpjdaenmfdcjhaa
open Go.RowKit

set_option maxHeartbeats 4000000 in
set_option maxRecDepth 100000 in
theorem closing_any (k : Int) (t : ByteArray) (n : Int) (w : World) : Calls Try.prog 26 #[tokV k t n] w (Sg (Ns.clo (k, t, n)) w) := by
  obtain ⟨W0, hW⟩ : ∃ W0, W0 = w.alloc (.cells #[.int .i64 k, .string t, .int .i64 n] 31) := ⟨_, rfl⟩
  have hb0 : Below w.heap.size w W0 := by rw [hW]; exact (Below.refl _ _).alloc (Nat.le_refl _) _
  have k0 : W0.heap[w.heap.size]? = some (.cells #[.int .i64 k, .string t, .int .i64 n] 31 (0, 0)) := by rw [hW]; exact heap_alloc_new w _
  obtain ⟨q0, q1, q2⟩ := tok3_cells k0
  have HB0 := Lib.hid hb0
  have HW := Lib.hid hW
  clear hb0 k0 hW
  unfold tokV
  by_cases h3 : k = 3
  · subst h3
    have HV : Hid (Ns.clo (3, t, n) = ⟨#[41]⟩) := Lib.hid (by unfold Ns.clo; rw [if_pos (.inl rfl)])
    go_enter Try.func26, Try.ntmps26
    go_upto_region 1 with fail
    rw [← HW.out]
    go_wp2_with fail
    go_ret
    exact ⟨by rw [HV.out]; rfl, HB0.out⟩
  · have e3 : (k == 3) = false := beq_false_of_ne h3
    by_cases h12 : k = 12
    · subst h12
      clear h3
      have cases4 : t = ⟨#[40]⟩ ∨ t = ⟨#[91]⟩ ∨ t = ⟨#[123]⟩ ∨ ((t.toList == [40]) = false ∧ (t.toList == [91]) = false ∧ (t.toList == [123]) = false) := by
        rw [str_test, str_test, str_test]
        by_cases a : t = ⟨#[40]⟩
        · exact .inl a
        · by_cases b : t = ⟨#[91]⟩
          · exact .inr (.inl b)
          · by_cases c : t = ⟨#[123]⟩
            · exact .inr (.inr (.inl c))
            · exact .inr (.inr (.inr ⟨decide_eq_false a, decide_eq_false b, decide_eq_false c⟩))
      have HV : Hid (t = ⟨#[40]⟩ ∨ t = ⟨#[91]⟩ ∨ t = ⟨#[123]⟩ ∨ Ns.clo (12, t, n) = ⟨#[]⟩) := Lib.hid (by
        rcases cases4 with h | h | h | ⟨h1, h2, h3⟩
        · exact .inl h
        · exact .inr (.inl h)
        · exact .inr (.inr (.inl h))
        · rw [str_test] at h1 h2 h3
          refine .inr (.inr (.inr ?_))
          unfold Ns.clo
          rw [if_neg (fun h => h.elim (fun h => by cases h) (fun h => of_decide_eq_false h1 h.2)), if_neg (fun h => of_decide_eq_false h2 h.2), if_neg (fun h => of_decide_eq_false h3 h.2)])
      rcases cases4 with rfl | rfl | rfl | ⟨e4, e5, e6⟩
      · clear HV
        go_enter Try.func26, Try.ntmps26
        go_upto_region 1 with fail
        rw [← HW.out]
        go_wp2_with fail
        go_ret
        exact ⟨rfl, HB0.out⟩
      · clear HV
        go_enter Try.func26, Try.ntmps26
        go_upto_region 1 with fail
        rw [← HW.out]
        go_wp2_with fail
        go_ret
        exact ⟨rfl, HB0.out⟩
      · clear HV
        go_enter Try.func26, Try.ntmps26
        go_upto_region 1 with fail
        rw [← HW.out]
        go_wp2_with fail
        go_ret
        exact ⟨rfl, HB0.out⟩
      · have HV2 : Hid (Ns.clo (12, t, n) = ⟨#[]⟩) := Lib.hid (by
          rcases HV.out with h | h | h | h
          · rw [str_test] at e4; exact absurd h (of_decide_eq_false e4)
          · rw [str_test] at e5; exact absurd h (of_decide_eq_false e5)
          · rw [str_test] at e6; exact absurd h (of_decide_eq_false e6)
          · exact h)
        clear HV
        go_enter Try.func26, Try.ntmps26
        go_upto_region 1 with fail
        rw [← HW.out]
        go_wp2_with fail
        go_ret
        exact ⟨by rw [HV2.out]; rfl, HB0.out⟩
    · have e12 : (k == 12) = false := beq_false_of_ne h12
      have HV : Hid (Ns.clo (k, t, n) = ⟨#[]⟩) := Lib.hid (Ns.clo_none (Ns.not_O h3 h12))
      clear h3 h12
      go_enter Try.func26, Try.ntmps26
      go_upto_region 1 with fail
      rw [← HW.out]
      go_wp2_with fail
      go_ret
      exact ⟨by rw [HV.out]; rfl, HB0.out⟩
end Go.Proofs.Ytpjdaenmfdcjhaa
