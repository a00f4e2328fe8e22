/-
  The walks of the reference's hex, escape and letter.
-/
import Derived.Test.YtgcmjkimiakibaaDoorGav
import Derived.Deep.RegionWith
import Derived.Test.YtgcmjkimiakibaaDoorGat
namespace Go.Proofs.YtgcmjkimiakibaaDoor
open Go.RowKit

set_option maxHeartbeats 4000000 in
set_option maxRecDepth 100000 in
theorem hex_digit (c : Int) (h0 : 0 ≤ c) (h1 : c < 16) (w : World) :
    Calls Tryd.prog 65 #[.int .i64 c] w fun e w' => e = .returned (.string (Tk.str [Tk.hx c])) ∧ w' = w := by
  have h : c = 0 ∨ c = 1 ∨ c = 2 ∨ c = 3 ∨ c = 4 ∨ c = 5 ∨ c = 6 ∨ c = 7 ∨ c = 8 ∨ c = 9 ∨ c = 10 ∨ c = 11 ∨ c = 12 ∨ c = 13 ∨ c = 14 ∨ c = 15 := by omega
  clear h0 h1
  rcases h with rfl | rfl | rfl | rfl | rfl | rfl | rfl | rfl | rfl | rfl | rfl | rfl | rfl | rfl | rfl | rfl
  all_goals
    go_enter Tryd.func65, Tryd.ntmps65
    go_wp2_with fail
    go_ret
    exact ⟨rfl, rfl⟩
theorem hexF_size (f : Nat) (c : Int) (h : 0 ≤ c) : (Tk.str (Pr.hexF f c)).size ≤ f := by
  have e : Ru.wr (Pr.hexF f c) = Pr.hexF f c := Pr.wr_asc' (fun x hm => by
    have := Pr.hexF_chr f c h x hm
    omega)
  rw [str_size, e]
  exact Pr.hexF_len f c
set_option maxHeartbeats 4000000 in
set_option maxRecDepth 100000 in
theorem hexF_any : ∀ (f : Nat) (c : Int), f ≤ 5 → 0 ≤ c → c < 16 ^ (f + 1) → ∀ w : World,
    Calls Tryd.prog 65 #[.int .i64 c] w fun e w' => e = .returned (.string (Tk.str (Pr.hexF (f + 1) c))) ∧ w' = w := by
  intro f
  induction f with
  | zero =>
    intro c _ h0 h1 w
    have h16 : c < 16 := by simpa using h1
    unfold Pr.hexF
    rw [if_pos h16]
    exact hex_digit c h0 h16 w
  | succ f ih =>
    intro c hf h0 h1 w
    unfold Pr.hexF
    by_cases h : c < 16
    · rw [if_pos h]
      exact hex_digit c h0 h w
    · rw [if_neg h]
      have hp : (16 : Int) ^ (f + 1 + 1) ≤ 16 ^ 6 := by
        have : (16 : Nat) ^ (f + 1 + 1) ≤ 16 ^ 6 := Nat.pow_le_pow_right (by omega) (by omega)
        exact_mod_cast this
      have hp6 : (16 : Int) ^ 6 = 16777216 := by decide
      have hlt : c / 16 < 16 ^ (f + 1) := by rw [Int.pow_succ 16 (f + 1)] at h1; omega
      have C1 := Lib.hid (ih (c / 16) (by omega) (by omega) hlt)
      have C2 := Lib.hid (hex_digit (c % 16) (by omega) (by omega))
      have hz1 := hexF_size (f + 1) (c / 16) (by omega)
      have hz2 : (Tk.str [Tk.hx (c % 16)]).size ≤ 1 := by
        rw [str_size, Pr.wr_asc' (l := [Tk.hx (c % 16)]) (fun x hm => by rw [List.mem_singleton] at hm; subst hm; have := Pr.hx_chr (d := c % 16) (by omega) (by omega); omega)]
        simp
      have hcm : c ≤ 16777216 := by omega
      have e1 : Int.tdiv c 16 = c / 16 := Int.tdiv_eq_ediv_of_nonneg h0
      have e2 : Int.tmod c 16 = c % 16 := Int.tmod_eq_emod_of_nonneg h0
      have e3 : IntKind.i64.wrap (c / 16) = c / 16 := IntWalk.i64_in _ (by omega)
      have e4 : IntKind.i64.wrap (c % 16) = c % 16 := IntWalk.i64_in _ (by omega)
      rw [Pr.str_app]
      clear ih hp hp6 hlt h1
      go_enter Tryd.func65, Tryd.ntmps65
      go_upto_region 3 with fail
      go_wp2_with (first | (go_at_call 65; ((with_reducible refine (C1.out _).mono ?_); rintro e w1 ⟨rfl, rfl⟩)) | (go_at_call 65; ((with_reducible refine (C2.out _).mono ?_); rintro e w2 ⟨rfl, rfl⟩)))
      go_ret
      exact ⟨rfl, rfl⟩
end Go.Proofs.YtgcmjkimiakibaaDoor

/-
  The walks of the reference's escape and letter.
-/
namespace Go.Proofs.YtgcmjkimiakibaaDoor
open Go.RowKit

set_option maxHeartbeats 4000000 in
set_option maxRecDepth 100000 in
theorem rletter_any (c : Int) (h : Ru.Is c) (w : World) : Calls Tryd.prog 21 #[.int .i64 c] w (Sg (Tk.str [c]) w) := by
  have C := Lib.hid (bytes_any c w h)
  have hel := Lib.encodeRuneZ_length c
  have he : Tk.str [c] = strOfNums (Lib.encodeRuneZ c) := by unfold Tk.str; rw [Pr.wr_cons, Pr.wr_nil, List.append_nil]
  rw [he]
  clear he h
  go_enter Tryd.func21, Tryd.ntmps21
  go_wp2_with (go_at_call 47; ((with_reducible refine (C.out).mono ?_); rintro e w2 ⟨bx, cx, rfl, hfc, b2⟩; have hcx := conv_bytes cx (fresh_bs' hfc (by omega)); clear hfc))
  go_ret
  exact ⟨rfl, b2⟩
theorem rhex_any (c : Int) (h0 : 0 ≤ c) (h1 : c ≤ 1114111) (w : World) : Calls Tryd.prog 65 #[.int .i64 c] w fun e w' => e = .returned (.string (Tk.str (Pr.hexC c))) ∧ w' = w :=
  hexF_any 5 c (by omega) h0 (Int.lt_of_le_of_lt h1 (by decide)) w
set_option maxHeartbeats 4000000 in
set_option maxRecDepth 100000 in
theorem rescape_any (c : Int) (h0 : 0 ≤ c) (h1 : c ≤ 1114111) (w : World) : Calls Tryd.prog 49 #[.int .i64 c] w (Sg (Tk.str (Pr.escC c)) w) := by
  have C := Lib.hid (rhex_any c h0 h1)
  have hz : (Tk.str (Pr.hexC c)).size ≤ 6 := hexF_size 6 c h0
  have he : Tk.str (Pr.escC c) = strOfNums [92] ++ Tk.str (Pr.hexC c) ++ ⟨#[32]⟩ := by
    unfold Pr.escC
    rw [show (92 :: (Pr.hexC c ++ [32]) : List Int) = [92] ++ Pr.hexC c ++ [32] by simp, Pr.str_app, Pr.str_app]
    rfl
  have hz1 : (strOfNums [92]).size ≤ 1 := by decide
  rw [he]
  clear he h0 h1
  generalize Tk.str (Pr.hexC c) = Y at *
  have hcl := fun (W : World) (h : W.cell? ⟨w.heap.size, 0, none⟩ = some (.int .u8 92)) => conv_back1 h
  generalize strOfNums [92] = X at *
  go_enter Tryd.func49, Tryd.ntmps49
  go_upto_region 1 with fail
  go_region_with (first | (go_at_call 65; ((with_reducible refine (C.out _).mono ?_); rintro e w1 ⟨rfl, rfl⟩)))
  all_goals
    go_wp2_with fail
    go_ret
    first | exact ⟨rfl, (Below.refl _ _).alloc (Nat.le_refl _) _⟩ | exact ⟨rfl, below_drewN ((Below.refl _ _).alloc (Nat.le_refl _) _) _⟩ | exact ⟨rfl, ((Below.refl _ _).alloc (Nat.le_refl _) _).drew⟩
end Go.Proofs.YtgcmjkimiakibaaDoor

/-
  The walk of the reference's quoted.
-/
namespace Go.Proofs.YtgcmjkimiakibaaDoor
open Go.RowKit

namespace Pr
open Ru Tk
theorem qT_str {cs : List Int} {k : Nat} (h : k < cs.length) : str (34 :: enT cs (k + 1)) = str (34 :: enT cs k) ++ str (qC (g cs k)) := by
  rw [← str_app]
  unfold enT
  rw [take_g h, enq_snoc]
  rfl
theorem qT_size {cs : List Int} (h : ∀ c ∈ cs, Is c) {k : Nat} (hk : k ≤ cs.length) : (str (34 :: enT cs k)).size ≤ 8 * k + 1 := by
  rw [str_size, wr_cons, List.length_append]
  have := enT_len cs h k hk
  have : (Lib.encodeRuneZ 34).length = 1 := by decide
  omega
theorem qC_size {c : Int} (h : Is c) : (str (qC c)).size ≤ 8 := by rw [str_size]; exact qC_len h
theorem spec_in {c : Int} : c ∈ [34, 92, 10, 12, 13] ↔ spec c := by
  unfold spec
  simp
end Pr
set_option maxHeartbeats 4000000 in
set_option maxRecDepth 100000 in
theorem quoted_any (cs : List Int) (h : ∀ c ∈ cs, Ru.Is c) (hm : cs.length ≤ 10000) (A : Option Addr) (cap : Nat) (w : World) (hs : Bs w w.heap.size .i64 A cs) :
    Calls Tryd.prog 23 #[.slice A cs.length cap] w (Sg (Tk.str (34 :: Pr.enq cs)) w) := by
  have H := Lib.hid h
  have HS := Lib.hid hs
  clear h hs
  have CL := Lib.hid (rletter_any 34 (by unfold Ru.Is; omega))
  go_enter Tryd.func23, Tryd.ntmps23
  go_wp2_with (go_at_call 21; ((with_reducible refine (CL.out _).mono ?_); rintro e w1 ⟨rfl, b1⟩))
  have HB1 := Lib.hid b1
  clear b1
  go_loopw [3, 4] (fun v3 v4 wr => ∃ k : Nat, k ≤ cs.length ∧ v4 = .int .i64 k ∧ v3 = .string (Tk.str (34 :: Pr.enT cs k)) ∧ Hid (Below w.heap.size w wr)) (fun _ v4 _ => cs.length - (RowKit.intOf v4).toNat)
  case atStart => exact ⟨0, Nat.zero_le _, rfl, rfl, HB1⟩
  case round =>
    obtain ⟨k, hk, rfl, rfl, HB⟩ := hrel
    by_cases hlt : k < cs.length
    · have HSr := Lib.hid (HS.out.next HB.out)
      obtain ⟨bb, off, rfl, hbb, hp⟩ := HSr.out (by omega)
      have hc := hp k hlt
      clear hp
      have HIs := Lib.hid (H.out _ (by rw [Ru.g_eq hlt]; exact List.getElem_mem _ : Ru.g cs k ∈ cs))
      have HT := Lib.hid (Pr.qT_str hlt)
      have hz1 := Pr.qT_size H.out hk
      have hz2 := Pr.qC_size HIs.out
      have HQ : Hid (Pr.qC (Ru.g cs k) = if Pr.spec (Ru.g cs k) then Pr.escC (Ru.g cs k) else [Ru.g cs k]) := Lib.hid rfl
      generalize Ru.g cs k = c at *
      generalize Tk.str (34 :: Pr.enT cs k) = X at *
      have CI : Hid (∀ (bl : Bool), (bl = true ↔ Pr.spec c) → Calls Tryd.prog 28 #[.slice (some ⟨wr.heap.size, 0, none⟩) 5 5, .int .i64 c] (wr.alloc (.cells #[.int .i64 34, .int .i64 92, .int .i64 10, .int .i64 12, .int .i64 13] 3)) (fun e w' => e = .returned (.bool bl) ∧ (wr.alloc (.cells #[.int .i64 34, .int .i64 92, .int .i64 10, .int .i64 12, .int .i64 13] 3)) = w')) := Lib.hid (fun bl hbl => in_any [34, 92, 10, 12, 13] c _ 5 _ _ (lit_bs wr [34, 92, 10, 12, 13] 3) (by decide) bl (hbl.trans Pr.spec_in.symm))
      have hc2 : (wr.alloc (.cells #[.int .i64 34, .int .i64 92, .int .i64 10, .int .i64 12, .int .i64 13] 3)).cell? ⟨bb, off + k, none⟩ = some (.int .i64 c) := (((Below.refl wr.heap.size wr).alloc (Nat.le_refl _) _).cell (p := ⟨bb, off + k, none⟩) hbb).trans hc
      have HB2 : Hid (Below wr.heap.size wr (wr.alloc (.cells #[.int .i64 34, .int .i64 92, .int .i64 10, .int .i64 12, .int .i64 13] 3))) := Lib.hid ((Below.refl wr.heap.size wr).alloc (Nat.le_refl _) _)
      by_cases hsp : Pr.spec c
      · have CI1 := Lib.hid (CI.out true (by simp [hsp]))
        rw [if_pos hsp] at HQ
        have e := HQ.out
        rw [e] at hz2 HT
        have CE := Lib.hid (fun W => rescape_any c (Pr.Is_lt HIs.out).1 (Pr.Is_lt HIs.out).2 W)
        clear CI e hsp HQ
        generalize Tk.str (Pr.escC c) = Y at *
        go_wp2_with (first | (go_at_call 28; ((with_reducible refine (CI1.out).mono ?_); rintro e w2 ⟨rfl, rfl⟩)) | (go_at_call 49; ((with_reducible refine (CE.out _).mono ?_); rintro e w3 ⟨rfl, b3⟩; have HB3 := Lib.hid b3; clear b3)))
        go_roundw
        case rel => exact ⟨k + 1, hlt, rfl, by rw [HT.out], Lib.hid (below_next HB.out (below_next HB2.out HB3.out))⟩
        case measure => show cs.length - (k + 1) < cs.length - k; omega
      · have CI1 := Lib.hid (CI.out false (by simp [hsp]))
        rw [if_neg hsp] at HQ
        have e := HQ.out
        rw [e] at hz2 HT
        have CE := Lib.hid (fun W => rletter_any c HIs.out W)
        clear CI e hsp HQ
        generalize Tk.str [c] = Y at *
        go_wp2_with (first | (go_at_call 28; ((with_reducible refine (CI1.out).mono ?_); rintro e w2 ⟨rfl, rfl⟩)) | (go_at_call 21; ((with_reducible refine (CE.out _).mono ?_); rintro e w3 ⟨rfl, b3⟩; have HB3 := Lib.hid b3; clear b3)))
        go_roundw
        case rel => exact ⟨k + 1, hlt, rfl, by rw [HT.out], Lib.hid (below_next HB.out (below_next HB2.out HB3.out))⟩
        case measure => show cs.length - (k + 1) < cs.length - k; omega
    · obtain rfl : k = cs.length := by omega
      have he : Pr.enT cs cs.length = Pr.enq cs := by unfold Pr.enT; rw [List.take_length]
      rw [he]
      go_wp2_with fail
      go_ret
      exact ⟨rfl, HB.out⟩
end Go.Proofs.YtgcmjkimiakibaaDoor

/-
  The walk of the reference's Within.
-/
namespace Go.Proofs.YtgcmjkimiakibaaDoor
open Go.RowKit

set_option maxHeartbeats 800000 in
theorem rwithin_any (c : Int) (w : World) :
    Calls Tryd.prog 48 #[.int .i64 c] w fun e w' => e = .returned (.bool (Ru.witB c)) ∧ w = w' := by
  unfold Ru.witB
  cases hb : Ru.begB c
  · by_cases b1 : c = 45
    · subst b1
      go_enter Tryd.func48, Tryd.ntmps48
      go_wp2_with (go_at_call 45; refine (rbegins_any _ _).mono ?_; rintro e w' ⟨rfl, rfl⟩)
      go_ret
      exact ⟨rfl, rfl⟩
    · have e1 := Ru.eq_f b1
      by_cases a1 : 48 ≤ c <;> by_cases a2 : c ≤ 57
      all_goals try omega
      all_goals
        go_enter Tryd.func48, Tryd.ntmps48
        go_wp2_with (go_at_call 45; refine (rbegins_any _ _).mono ?_; rintro e w' ⟨rfl, rfl⟩)
        go_ret
        exact ⟨ret_bool (by rw [Bool.eq_iff_iff]; simp; try omega), rfl⟩
  · go_enter Tryd.func48, Tryd.ntmps48
    go_wp2_with (go_at_call 45; refine (rbegins_any _ _).mono ?_; rintro e w' ⟨rfl, rfl⟩)
    go_ret
    exact ⟨rfl, rfl⟩

end Go.Proofs.YtgcmjkimiakibaaDoor
