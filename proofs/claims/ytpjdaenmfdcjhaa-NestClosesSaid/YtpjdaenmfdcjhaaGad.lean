/-
  The walk of the reference's Open.
-/
import Derived.Test.YtpjdaenmfdcjhaaGab
import Derived.Test.YtpjdaenmfdcjhaaGac
import Derived.Deep.Cut
import Derived.Deep.CutRange
import Derived.Deep.DeepCutAuto
import Derived.Deep.RegionHeld3
import Derived.Deep.RegionWith
import Derived.LoopTactic
import Derived.IntWalk
import Derived.Outline
namespace Go.Proofs.Ytpjdaenmfdcjhaa
open Go.RowKit

/-- the loop's row: what is open so far -/
def OpenAt (ts : List Tk.Tok) (at_ : Nat) (w : World) (v5 v6 : Value) (wr : World) : Prop :=
  ∃ k : Nat, k ≤ at_ ∧ v6 = .int .i64 k ∧ Ow 3 1 w v5 (Ns.ni (Ns.opn ts k)).length (nums .i64 (Ns.ni (Ns.opn ts k))) wr
set_option maxHeartbeats 4000000 in
set_option maxRecDepth 100000 in
theorem ropen_any (ts : List Tk.Tok) (hm : ts.length ≤ 65536) (A : Option Addr) (cap at_ : Nat) (hat : at_ ≤ ts.length) (w : World) (h : Ts w w.heap.size A ts) :
    Calls Try.prog 24 #[.slice A ts.length cap, .int .i64 at_] w (Made .i64 3 (Ns.ni (Ns.opn ts at_)) w) := by
  have H := Lib.hid h
  clear h
  go_enter Try.func24, Try.ntmps24
  go_wp2_with fail
  go_loopw [5, 6] (fun v5 v6 wr => OpenAt ts at_ w v5 v6 wr) (fun _ v6 _ => at_ - (RowKit.intOf v6).toNat)
  case atStart => exact ⟨0, Nat.zero_le _, rfl, Ow.start _ _ (Below.refl _ _)⟩
  case round =>
    obtain ⟨k, hk, rfl, hown⟩ := hrel
    have HO := Lib.hid hown
    clear hown
    by_cases hlt : k < at_
    · obtain ⟨bb, off, rfl, hbb, hp⟩ := (H.out.next HO.out.bel) (by omega)
      obtain ⟨p0, p1, p2⟩ := hp k (by omega)
      have hol := Ns.opn_len ts k
      have hnl := Ns.ni_len (Ns.opn ts k)
      have HL := Lib.hid hnl
      have hol2 : (Ns.ni (Ns.opn ts k)).length ≤ 1000000 := by omega
      have HP := Lib.hid hp
      clear hp hnl
      have C : Hid (∀ W, Calls Try.prog 25 #[.agg #[.int .i64 (Tk.tk ts k).1, .string (Tk.tk ts k).2.1, .int .i64 (Tk.tk ts k).2.2]] W (Sg (Ns.clo (Tk.tk ts k)) W)) := Lib.hid fun W => rclose_any _ _ _ W
      by_cases hO : Ns.isO (Tk.tk ts k)
      · have HN : Hid (Ns.ni (Ns.opn ts (k + 1)) = Ns.ni (Ns.opn ts k) ++ [(k : Int)]) := Lib.hid (by rw [Ns.opn_push hO, Ns.ni_app]; rfl)
        have he := Ns.empty_f hO
        clear hO HP HL
        generalize Ns.clo (Tk.tk ts k) = cl at *
        generalize Tk.tk ts k = u at *
        generalize Ns.ni (Ns.opn ts k) = ol at *
        go_wp2_with (first | (go_at_call 25; ((with_reducible refine (C.out _).mono ?_); rintro e w1 ⟨rfl, b1⟩; have HO1 := Lib.hid (HO.out.next b1); clear b1)) | (at_builtin; refine app_int rfl _ _ rfl rfl HO1.out (k : Int) _ _ rfl hol2 ?_; intro v' w3 H3; have HO3 := Lib.hid H3; clear H3))
        go_roundw
        case rel => exact ⟨k + 1, by omega, by go_num, by rw [HN.out]; exact HO3.out⟩
        case measure => simp [RowKit.intOf]; omega
      · have hcn := Ns.clo_none hO
        by_cases h13 : (Tk.tk ts k).1 = 13
        · have e13 : ((Tk.tk ts k).1 == 13) = true := by rw [h13]; rfl
          by_cases hl0 : 0 < (Ns.opn ts k).length
          · have hol3 := HL.out
            obtain ⟨g, cv, rfl, _, hg0, hg1⟩ := HO.out.at_ (by omega)
            have htop := Ns.top_g hl0
            have hne : Ns.opn ts k ≠ [] := by intro e; rw [e] at hl0; simp at hl0
            have hTm := Ns.opn_lt (Ns.top_mem hne)
            have hgc := HO.out.cells (nums_get (k := .i64) (l := Ns.ni (Ns.opn ts k)) (j := (Ns.opn ts k).length - 1) (by omega))
            rw [htop] at hgc
            rw [← hol3] at hgc
            obtain ⟨t0, t1, t2⟩ := HP.out (Ns.top (Ns.opn ts k)) (by omega)
            have CT : Hid (∀ W, Calls Try.prog 25 #[.agg #[.int .i64 (Tk.tk ts (Ns.top (Ns.opn ts k))).1, .string (Tk.tk ts (Ns.top (Ns.opn ts k))).2.1, .int .i64 (Tk.tk ts (Ns.top (Ns.opn ts k))).2.2]] W (Sg (Ns.clo (Tk.tk ts (Ns.top (Ns.opn ts k)))) W)) := Lib.hid fun W => rclose_any _ _ _ W
            have hcl := str_same (Ns.clo (Tk.tk ts (Ns.top (Ns.opn ts k)))) (Tk.tk ts k).2.1
            have HY : Hid (Ns.clo (Tk.tk ts (Ns.top (Ns.opn ts k))) = (Tk.tk ts k).2.1 → Ns.ni (Ns.opn ts (k + 1)) = (Ns.ni (Ns.opn ts k)).take ((Ns.ni (Ns.opn ts k)).length - 1)) := Lib.hid fun h => by rw [Ns.opn_pop ⟨h13, hne, h⟩, Ns.ni_drop, Ns.ni_len]
            have HX : Hid (¬ Ns.clo (Tk.tk ts (Ns.top (Ns.opn ts k))) = (Tk.tk ts k).2.1 → Ns.ni (Ns.opn ts (k + 1)) = Ns.ni (Ns.opn ts k)) := Lib.hid fun h => by rw [Ns.opn_keep hO (fun c => h c.2.2)]
            have hpos : 0 < (Ns.ni (Ns.opn ts k)).length := by omega
            have hz : decide (0 < (Ns.ni (Ns.opn ts k)).length) = true := decide_eq_true hpos
            have hz2 : decide (0 < ((Ns.ni (Ns.opn ts k)).length : Int)) = true := decide_eq_true (by omega)
            have hT1 : Ns.top (Ns.opn ts k) < ts.length := by omega
            rw [h13] at p0
            rw [hcn, h13] at C
            clear hO HP hcn h13 htop hl0 hne hTm hol3 HL e13
            generalize Ns.clo (Tk.tk ts (Ns.top (Ns.opn ts k))) = ct at *
            generalize Tk.tk ts (Ns.top (Ns.opn ts k)) = uu at *
            obtain ⟨uk, ut, un⟩ := uu
            generalize Ns.top (Ns.opn ts k) = T at *
            generalize (Tk.tk ts k).2.1 = tx at *
            generalize (Tk.tk ts k).2.2 = tn at *
            generalize Ns.ni (Ns.opn ts k) = ol at *
            simp only at t0 t1 t2 CT
            have hsub : IntKind.i64.wrap ((ol.length : Int) - 1) = (ol.length : Int) - 1 := IntWalk.i64_in _ (by omega)
            have hsn : ((ol.length : Int) - 1).toNat = ol.length - 1 := by omega
            have hsb : (0 : Int) ≤ (ol.length : Int) - 1 := by omega
            have hti : (T : Int) < (ts.length : Int) := by omega
            have hsl : (ol.length : Int) - 1 < (ol.length : Int) := by omega
            have hk0 : (0 : Int) ≤ (k : Int) := by omega
            have hs1 : (1 : Int) ≤ (ol.length : Int) := by omega
            have hs2 : 1 ≤ ol.length := by omega
            have hk1 : (k : Int) < (ts.length : Int) := by omega
            by_cases hc : ct = tx
            · have e8 : (ct.toList == tx.toList) = true := by rw [hcl]; exact decide_eq_true hc
              have HN := Lib.hid (HY.out hc)
              clear HX HY hcl hc
              go_upto_region 7 with (first | (go_at_call 25; ((with_reducible refine (C.out _).mono ?_); rintro e w1 ⟨rfl, b1⟩; have HO1 := Lib.hid (HO.out.next b1); have r0 := (b1.cell (p := ⟨bb, off + k * 3, none⟩) hbb).trans p0; have r1 := (b1.cell (p := ⟨bb, off + k * 3 + 1, none⟩) hbb).trans p1; have s0 := (b1.cell (p := ⟨bb, off + T * 3, none⟩) hbb).trans t0; have s1 := (b1.cell (p := ⟨bb, off + T * 3 + 1, none⟩) hbb).trans t1; have s2 := (b1.cell (p := ⟨bb, off + T * 3 + 2, none⟩) hbb).trans t2; have gc := (b1.cell (p := ⟨g, ol.length - 1, none⟩) hg1).trans hgc; have hbb1 := Nat.lt_of_lt_of_le hbb b1.size; have hg2 := Nat.lt_of_lt_of_le hg1 b1.size; clear b1 C)))
              clear p0 p1 p2 t0 t1 t2 hgc hbb hg1
              go_region_held3 (fun w' => w'.cell? ⟨bb, off + k * 3, none⟩ = some (.int .i64 13) ∧ w'.cell? ⟨bb, off + k * 3 + 1, none⟩ = some (.string tx) ∧ w'.cell? ⟨bb, off + T * 3, none⟩ = some (.int .i64 uk) ∧ w'.cell? ⟨bb, off + T * 3 + 1, none⟩ = some (.string ut) ∧ w'.cell? ⟨bb, off + T * 3 + 2, none⟩ = some (.int .i64 un) ∧ w'.cell? ⟨g, ol.length - 1, none⟩ = some (.int .i64 T))
                (first | go_keep | (go_split_ands; exact ⟨(hb1.cell (p := ⟨bb, off + k * 3, none⟩) hbb1).trans (by assumption), (hb1.cell (p := ⟨bb, off + k * 3 + 1, none⟩) hbb1).trans (by assumption), (hb1.cell (p := ⟨bb, off + T * 3, none⟩) hbb1).trans (by assumption), (hb1.cell (p := ⟨bb, off + T * 3 + 1, none⟩) hbb1).trans (by assumption), (hb1.cell (p := ⟨bb, off + T * 3 + 2, none⟩) hbb1).trans (by assumption), (hb1.cell (p := ⟨g, ol.length - 1, none⟩) hg2).trans (by assumption)⟩))
                (first | (go_at_call 25; refine (CT.out _).mono ?_; rintro e w2 ⟨rfl, hb1⟩))
              have HO2 := Lib.hid (HO1.out.next ((Below.refl _ _).drew.trans hb1))
              clear hb1 r0 r1 s0 s1 s2 gc hsub hsb hsn hti
              go_wp2_with fail
              go_roundw
              case rel => exact ⟨k + 1, by omega, by go_num, by rw [HN.out, nums_take, List.length_take, Nat.min_eq_left (Nat.sub_le _ _)]; have := HO2.out.cut (m := ol.length - 1) (Nat.sub_le _ _); rwa [Nat.mul_one] at this⟩
              case measure => simp [RowKit.intOf]; omega
            · have e8 : (ct.toList == tx.toList) = false := by rw [hcl]; exact decide_eq_false hc
              have HN := Lib.hid (HX.out hc)
              clear HX HY hcl hc
              go_upto_region 7 with (first | (go_at_call 25; ((with_reducible refine (C.out _).mono ?_); rintro e w1 ⟨rfl, b1⟩; have HO1 := Lib.hid (HO.out.next b1); have r0 := (b1.cell (p := ⟨bb, off + k * 3, none⟩) hbb).trans p0; have r1 := (b1.cell (p := ⟨bb, off + k * 3 + 1, none⟩) hbb).trans p1; have s0 := (b1.cell (p := ⟨bb, off + T * 3, none⟩) hbb).trans t0; have s1 := (b1.cell (p := ⟨bb, off + T * 3 + 1, none⟩) hbb).trans t1; have s2 := (b1.cell (p := ⟨bb, off + T * 3 + 2, none⟩) hbb).trans t2; have gc := (b1.cell (p := ⟨g, ol.length - 1, none⟩) hg1).trans hgc; have hbb1 := Nat.lt_of_lt_of_le hbb b1.size; have hg2 := Nat.lt_of_lt_of_le hg1 b1.size; clear b1 C)))
              clear p0 p1 p2 t0 t1 t2 hgc hbb hg1
              go_region_held3 (fun w' => w'.cell? ⟨bb, off + k * 3, none⟩ = some (.int .i64 13) ∧ w'.cell? ⟨bb, off + k * 3 + 1, none⟩ = some (.string tx) ∧ w'.cell? ⟨bb, off + T * 3, none⟩ = some (.int .i64 uk) ∧ w'.cell? ⟨bb, off + T * 3 + 1, none⟩ = some (.string ut) ∧ w'.cell? ⟨bb, off + T * 3 + 2, none⟩ = some (.int .i64 un) ∧ w'.cell? ⟨g, ol.length - 1, none⟩ = some (.int .i64 T))
                (first | go_keep | (go_split_ands; exact ⟨(hb1.cell (p := ⟨bb, off + k * 3, none⟩) hbb1).trans (by assumption), (hb1.cell (p := ⟨bb, off + k * 3 + 1, none⟩) hbb1).trans (by assumption), (hb1.cell (p := ⟨bb, off + T * 3, none⟩) hbb1).trans (by assumption), (hb1.cell (p := ⟨bb, off + T * 3 + 1, none⟩) hbb1).trans (by assumption), (hb1.cell (p := ⟨bb, off + T * 3 + 2, none⟩) hbb1).trans (by assumption), (hb1.cell (p := ⟨g, ol.length - 1, none⟩) hg2).trans (by assumption)⟩))
                (first | (go_at_call 25; refine (CT.out _).mono ?_; rintro e w2 ⟨rfl, hb1⟩))
              have HO2 := Lib.hid (HO1.out.next ((Below.refl _ _).drew.trans hb1))
              clear hb1 r0 r1 s0 s1 s2 gc hsub hsb hsn hti
              go_wp2_with fail
              go_roundw
              case rel => exact ⟨k + 1, by omega, by go_num, by rw [HN.out]; exact HO2.out⟩
              case measure => simp [RowKit.intOf]; omega
          · have HN : Hid (Ns.ni (Ns.opn ts (k + 1)) = Ns.ni (Ns.opn ts k)) := Lib.hid (by rw [Ns.opn_keep hO (fun h => h.2.1 (List.eq_nil_of_length_eq_zero (by omega)))])
            have hz : decide (0 < (Ns.ni (Ns.opn ts k)).length) = false := decide_eq_false (by rw [HL.out]; exact hl0)
            have hz2 : decide (0 < ((Ns.ni (Ns.opn ts k)).length : Int)) = false := decide_eq_false (by rw [HL.out]; omega)
            obtain ⟨Av, cv, rfl, _⟩ := HO.out.form
            rw [hcn] at C
            clear hO HP HL hcn h13
            generalize Tk.tk ts k = u at *
            generalize Ns.ni (Ns.opn ts k) = ol at *
            go_wp2_with (first | (go_at_call 25; ((with_reducible refine (C.out _).mono ?_); rintro e w1 ⟨rfl, b1⟩; have HO1 := Lib.hid (HO.out.next b1); have r0 := (b1.cell (p := ⟨bb, off + k * 3, none⟩) hbb).trans p0; clear b1)))
            go_quiet (fail)
            go_wp2_with fail
            go_roundw
            case rel => exact ⟨k + 1, by omega, by go_num, by rw [HN.out]; exact HO1.out.drewN _⟩
            case measure => simp [RowKit.intOf]; omega
        · have HN : Hid (Ns.opn ts (k + 1) = Ns.opn ts k) := Lib.hid (Ns.opn_keep hO (fun h => h13 h.1))
          have e13 : ((Tk.tk ts k).1 == 13) = false := beq_false_of_ne h13
          rw [hcn] at C
          clear hO HP HL hcn h13
          generalize Tk.tk ts k = u at *
          generalize Ns.opn ts k = ol at *
          go_wp2_with (first | (go_at_call 25; ((with_reducible refine (C.out _).mono ?_); rintro e w1 ⟨rfl, b1⟩; have HO1 := Lib.hid (HO.out.next b1); have r0 := (b1.cell (p := ⟨bb, off + k * 3, none⟩) hbb).trans p0; clear b1)))
          go_quiet (fail)
          go_wp2_with fail
          go_roundw
          case rel => exact ⟨k + 1, by omega, by go_num, by rw [HN.out]; exact HO1.out.drewN _⟩
          case measure => simp [RowKit.intOf]; omega
    · obtain rfl : k = at_ := by omega
      go_wp2_with fail
      go_ret
      exact made_of HO.out rfl
end Go.Proofs.Ytpjdaenmfdcjhaa
