/-
  The walk of the reference's Print.
-/
import Derived.Test.YtgcmjkimiakibaaDoorGax
import Derived.Test.YtgcmjkimiakibaaDoorGba
import Derived.Test.YtgcmjkimiakibaaDoorGas
import Derived.IntWalk
import Derived.Test.YtgcmjkimiakibaaDoorGat
import Derived.Deep.RegionWith
namespace Go.Proofs.YtgcmjkimiakibaaDoor
open Go.RowKit

namespace Pr
open Ru Tk
theorem F1_in {a : Int} : a ∈ [1, 3, 12, 13, 6, 14, 15, 16] ↔ F1 a := by unfold F1; simp
theorem F2_in {a : Int} : a ∈ [1, 13, 6, 14, 15, 16] ↔ F2 a := by unfold F2; simp
theorem sep_some (a b : Int) : sep (some a) b = if F1 a ∨ F2 b then [] else [47, 42, 42, 47] := rfl
theorem pS_first {ps : List PT} (h : 0 < ps.length) : str (prL none (ps.take 1)) = str (tokC (pt ps 0)) := by
  rw [take_pt h, prL_snoc]
  rfl
theorem pS_no {ps : List PT} {j : Nat} (h : j + 1 < ps.length) (hf : F1 (pt ps j).1 ∨ F2 (pt ps (j + 1)).1) : str (prL none (ps.take (j + 1 + 1))) = str (prL none (ps.take (j + 1))) ++ str (tokC (pt ps (j + 1))) := by
  rw [take_pt h, prL_snoc, str_app, str_app]
  rw [take_pt (show j < ps.length by omega), lastK_snoc]
  rw [sep_some, if_pos hf]
  congr 1
theorem pS_sep {ps : List PT} {j : Nat} (h : j + 1 < ps.length) (hf : ¬ (F1 (pt ps j).1 ∨ F2 (pt ps (j + 1)).1)) : str (prL none (ps.take (j + 1 + 1))) = (str (prL none (ps.take (j + 1))) ++ ⟨#[47, 42, 42, 47]⟩) ++ str (tokC (pt ps (j + 1))) := by
  rw [take_pt h, prL_snoc, ← List.append_assoc, str_app, str_app]
  rw [take_pt (show j < ps.length by omega), lastK_snoc]
  rw [sep_some, if_neg hf]
  rfl
end Pr
set_option maxHeartbeats 4000000 in
set_option maxRecDepth 100000 in
theorem rprintP_no (us : List Tk.Tok) (hF : Pr.Fair us) (hno : ¬ Pr.RightU us) (A : Option Addr) (cap : Nat) (w : World) (hA : Ts w w.heap.size A us) :
    Calls Tryd.prog 13 #[.slice A us.length cap] w (Sg ⟨#[]⟩ w) := by
  have CR := Lib.hid (rright_any us hF false (by simp [hno]) A cap w hA)
  clear hA hF hno
  go_enter Tryd.func13, Tryd.ntmps13
  go_wp2_with (first | (go_at_call 11; ((with_reducible refine (CR.out).mono ?_); rintro e w1 ⟨rfl, b1⟩)))
  go_ret
  exact ⟨rfl, b1⟩
set_option maxHeartbeats 16000000 in
set_option maxRecDepth 100000 in
theorem rprintP_yes (ps : List Pr.PT) (hF : Pr.Fair (ps.map Pr.toTok)) (hR : Pr.RightU (ps.map Pr.toTok)) (ho : ∀ j, j < ps.length → Pr.One (Pr.pt ps j)) (A : Option Addr) (cap : Nat) (w : World) (hA : Ts w w.heap.size A (ps.map Pr.toTok)) :
    Calls Tryd.prog 13 #[.slice A ps.length cap] w (Sg (Tk.str (Pr.prL none ps)) w) := by
  have hl : (ps.map Pr.toTok).length = ps.length := by simp
  have hm : ps.length ≤ 100 := by have := hF.1; omega
  have CR := Lib.hid (rright_any (ps.map Pr.toTok) hF true (by simp [hR]) A cap w hA)
  rw [hl] at CR
  have HA := Lib.hid hA
  have HO := Lib.hid ho
  have hsz : ∀ j, j < ps.length → (Tk.str (Pr.pt ps j).2.1).size ≤ 100 := fun j hj => by
    have := hF.2 j (by omega)
    rw [Pr.tk_map hj] at this
    exact this
  have HS := Lib.hid hsz
  have HL := Lib.hid (Pr.prL_len ho (fun j hj => by
    have := hsz j hj
    rw [← Ru.bs_len, Pr.str_bs] at this
    exact this))
  clear hA hF hR ho hsz hl
  go_enter Tryd.func13, Tryd.ntmps13
  go_wp2_with (first | (go_at_call 11; ((with_reducible refine (CR.out).mono ?_); rintro e w1 ⟨rfl, b1⟩)))
  have HB1 := Lib.hid b1
  clear b1 CR
  go_loopw [3, 4] (fun v3 v4 wr => ∃ k : Nat, k ≤ ps.length ∧ v4 = .int .i64 k ∧ v3 = .string (Tk.str (Pr.prL none (ps.take k))) ∧ Hid (Below w.heap.size w wr)) (fun _ v4 _ => ps.length - (RowKit.intOf v4).toNat)
  case atStart => exact ⟨0, Nat.zero_le _, rfl, rfl, HB1⟩
  case round =>
    obtain ⟨k, hk, rfl, rfl, HB⟩ := hrel
    by_cases hlt : k < ps.length
    · have HAr := Lib.hid (HA.out.next HB.out)
      obtain ⟨bb, off, rfl, hbb, hp⟩ := HAr.out (by simp; omega)
      have hpk := hp k (by simpa using hlt)
      rw [Pr.tk_map hlt] at hpk
      obtain ⟨p0, p1, p2⟩ : wr.cell? ⟨bb, off + k * 3, none⟩ = some (.int .i64 (Pr.pt ps k).1) ∧ wr.cell? ⟨bb, off + k * 3 + 1, none⟩ = some (.string (Tk.str (Pr.pt ps k).2.1)) ∧ wr.cell? ⟨bb, off + k * 3 + 2, none⟩ = some (.int .i64 (Pr.pt ps k).2.2) := hpk
      have hln := HL.out k hk
      have hz1 : (Tk.str (Pr.prL none (ps.take k))).size ≤ 90000 := by rw [str_size]; omega
      have hok := HO.out k hlt
      have hs1 := HS.out k hlt
      have hz2 : (Tk.str (Pr.tokC (Pr.pt ps k))).size ≤ 1000 := by
        have h1 := Pr.tokC_len hok
        rw [← Ru.bs_len, Pr.str_bs] at hs1
        rw [str_size]
        omega
      have CT : Hid (∀ W, Calls Tryd.prog 9 #[.agg #[.int .i64 (Pr.pt ps k).1, .string (Tk.str (Pr.pt ps k).2.1), .int .i64 (Pr.pt ps k).2.2]] W (Sg (Tk.str (Pr.tokC (Pr.pt ps k))) W)) := Lib.hid fun W => rtoken_yes (Pr.pt ps k).1 (Pr.pt ps k).2.2 (Pr.pt ps k).2.1 hok (by omega) W
      clear hln
      by_cases hk0 : k = 0
      · have HP : Hid (Tk.str (Pr.prL none (ps.take (k + 1))) = Tk.str (Pr.prL none (ps.take k)) ++ Tk.str (Pr.tokC (Pr.pt ps k))) := Lib.hid (by subst hk0; rw [Pr.pS_first hlt, List.take_zero]; exact (Pr.bs_inj (by rw [Pr.bs_app]; rfl)).symm)
        have hd0 : decide (0 < k) = false := decide_eq_false (by omega)
        clear HO HS HL hp hk0 hok hs1
        generalize Pr.pt ps k = p at *
        generalize Tk.str (Pr.tokC p) = Y at *
        generalize Tk.str (Pr.prL none (ps.take k)) = X at *
        generalize Tk.str p.2.1 = t at *
        go_wp2_with (go_at_call 9; ((with_reducible refine (CT.out _).mono ?_); rintro e w4 ⟨rfl, b4⟩; have HB4 := Lib.hid b4; clear b4))
        go_roundw
        case rel => exact ⟨k + 1, by omega, by go_num, by rw [HP.out], Lib.hid (below_next HB.out HB4.out)⟩
        case measure => simp [RowKit.intOf]; omega
      · obtain ⟨j, rfl⟩ : ∃ j, k = j + 1 := ⟨k - 1, by omega⟩
        have hp1 := hp j (by simp; omega)
        rw [Pr.tk_map (show j < ps.length by omega)] at hp1
        have q0 : wr.cell? ⟨bb, off + j * 3, none⟩ = some (.int .i64 (Pr.pt ps j).1) := hp1.1
        have hwr : IntKind.i64.wrap ((j : Int) + 1 - 1) = (j : Int) := by rw [show (j : Int) + 1 - 1 = (j : Int) by omega]; exact IntWalk.i64_in _ (by omega)
        have hwr2 : IntKind.i64.wrap (j : Int) = (j : Int) := IntWalk.i64_in _ (by omega)
        have HP1 : Hid (_ → _) := Lib.hid (Pr.pS_no hlt)
        have HP2 : Hid (_ → _) := Lib.hid (Pr.pS_sep hlt)
        clear HO HS HL hp hp1 hk0 hok hs1
        generalize Pr.pt ps (j + 1) = p at *
        generalize Pr.pt ps j = pj at *
        generalize Tk.str (Pr.tokC p) = Y at *
        generalize Tk.str (Pr.prL none (ps.take (j + 1))) = X at *
        generalize Tk.str p.2.1 = t at *
        have HB5 : Hid (Below wr.heap.size wr (wr.alloc (.cells #[.int .i64 1, .int .i64 3, .int .i64 12, .int .i64 13, .int .i64 6, .int .i64 14, .int .i64 15, .int .i64 16] 3))) := Lib.hid ((Below.refl wr.heap.size wr).alloc (Nat.le_refl _) _)
        have hs5 := HB5.out.size
        have CI1 : Hid (∀ (bl : Bool), (bl = true ↔ Pr.F1 pj.1) → Calls Tryd.prog 28 #[.slice (some ⟨wr.heap.size, 0, none⟩) 8 8, .int .i64 pj.1] (wr.alloc (.cells #[.int .i64 1, .int .i64 3, .int .i64 12, .int .i64 13, .int .i64 6, .int .i64 14, .int .i64 15, .int .i64 16] 3)) (fun e w' => e = .returned (.bool bl) ∧ (wr.alloc (.cells #[.int .i64 1, .int .i64 3, .int .i64 12, .int .i64 13, .int .i64 6, .int .i64 14, .int .i64 15, .int .i64 16] 3)) = w')) := Lib.hid (fun bl hbl => in_any [1, 3, 12, 13, 6, 14, 15, 16] pj.1 _ 8 _ _ (lit_bs wr [1, 3, 12, 13, 6, 14, 15, 16] 3) (by decide) bl (hbl.trans Pr.F1_in.symm))
        have q0' := (HB5.out.cell (p := ⟨bb, off + j * 3, none⟩) hbb).trans q0
        have p0' := (HB5.out.cell (p := ⟨bb, off + (j + 1) * 3, none⟩) hbb).trans p0
        have p1' := (HB5.out.cell (p := ⟨bb, off + (j + 1) * 3 + 1, none⟩) hbb).trans p1
        have p2' := (HB5.out.cell (p := ⟨bb, off + (j + 1) * 3 + 2, none⟩) hbb).trans p2
        by_cases hf1 : Pr.F1 pj.1
        · have CI := Lib.hid (CI1.out true (by simp [hf1]))
          have HP := Lib.hid (HP1.out (.inl hf1))
          clear CI1 HP1 HP2 hf1
          go_wp2_with (first | (go_at_call 28; ((with_reducible refine (CI.out).mono ?_); rintro e w2 ⟨rfl, rfl⟩)) | (go_at_call 9; ((with_reducible refine (CT.out _).mono ?_); rintro e w4 ⟨rfl, b4⟩; have HB4 := Lib.hid b4; clear b4)))
          go_roundw
          case rel => exact ⟨j + 1 + 1, by omega, by go_num, by rw [HP.out], Lib.hid (below_next HB.out (below_next HB5.out HB4.out))⟩
          case measure => simp [RowKit.intOf]; omega
        · have CI := Lib.hid (CI1.out false (by simp [hf1]))
          clear CI1
          generalize hW5 : (wr.alloc (.cells #[.int .i64 1, .int .i64 3, .int .i64 12, .int .i64 13, .int .i64 6, .int .i64 14, .int .i64 15, .int .i64 16] 3)) = W5 at *
          have hx5 : wr.heap.size < W5.heap.size := by rw [← hW5]; simp
          have HB6 : Hid (Below W5.heap.size W5 (W5.alloc (.cells #[.int .i64 1, .int .i64 13, .int .i64 6, .int .i64 14, .int .i64 15, .int .i64 16] 3))) := Lib.hid ((Below.refl W5.heap.size W5).alloc (Nat.le_refl _) _)
          have hbb5 : bb < W5.heap.size := by omega
          have CJ1 : Hid (∀ (bl : Bool), (bl = true ↔ Pr.F2 p.1) → Calls Tryd.prog 28 #[.slice (some ⟨W5.heap.size, 0, none⟩) 6 6, .int .i64 p.1] (W5.alloc (.cells #[.int .i64 1, .int .i64 13, .int .i64 6, .int .i64 14, .int .i64 15, .int .i64 16] 3)) (fun e w' => e = .returned (.bool bl) ∧ (W5.alloc (.cells #[.int .i64 1, .int .i64 13, .int .i64 6, .int .i64 14, .int .i64 15, .int .i64 16] 3)) = w')) := Lib.hid (fun bl hbl => in_any [1, 13, 6, 14, 15, 16] p.1 _ 6 _ _ (lit_bs W5 [1, 13, 6, 14, 15, 16] 3) (by decide) bl (hbl.trans Pr.F2_in.symm))
          have r0 := (HB6.out.cell (p := ⟨bb, off + (j + 1) * 3, none⟩) hbb5).trans p0'
          have r1 := (HB6.out.cell (p := ⟨bb, off + (j + 1) * 3 + 1, none⟩) hbb5).trans p1'
          have r2 := (HB6.out.cell (p := ⟨bb, off + (j + 1) * 3 + 2, none⟩) hbb5).trans p2'
          by_cases hf2 : Pr.F2 p.1
          · have CJ := Lib.hid (CJ1.out true (by simp [hf2]))
            have HP := Lib.hid (HP1.out (.inr hf2))
            clear CJ1 HP1 HP2 hf1 hf2
            go_wp2_with (first | (go_at_call 28; ((with_reducible refine (CI.out).mono ?_); rintro e w2 ⟨rfl, rfl⟩)) | (go_at_call 28; ((with_reducible refine (CJ.out).mono ?_); rintro e w3 ⟨rfl, rfl⟩)) | (go_at_call 9; ((with_reducible refine (CT.out _).mono ?_); rintro e w4 ⟨rfl, b4⟩; have HB4 := Lib.hid b4; clear b4)))
            go_roundw
            case rel => exact ⟨j + 1 + 1, by omega, by go_num, by rw [HP.out], Lib.hid (below_next HB.out (below_next HB5.out (below_next HB6.out HB4.out)))⟩
            case measure => simp [RowKit.intOf]; omega
          · have CJ := Lib.hid (CJ1.out false (by simp [hf2]))
            have HP := Lib.hid (HP2.out (by rintro (h | h); exact hf1 h; exact hf2 h))
            clear CJ1 HP1 HP2 hf1 hf2
            go_wp2_with (first | (go_at_call 28; ((with_reducible refine (CI.out).mono ?_); rintro e w2 ⟨rfl, rfl⟩)) | (go_at_call 28; ((with_reducible refine (CJ.out).mono ?_); rintro e w3 ⟨rfl, rfl⟩)) | (go_at_call 9; ((with_reducible refine (CT.out _).mono ?_); rintro e w4 ⟨rfl, b4⟩; have HB4 := Lib.hid b4; clear b4)))
            go_roundw
            case rel => exact ⟨j + 1 + 1, by omega, by go_num, by rw [HP.out], Lib.hid (below_next HB.out (below_next HB5.out (below_next HB6.out HB4.out)))⟩
            case measure => simp [RowKit.intOf]; omega
    · obtain rfl : k = ps.length := by omega
      rw [List.take_length]
      go_wp2_with fail
      go_ret
      exact ⟨rfl, HB.out⟩
end Go.Proofs.YtgcmjkimiakibaaDoor

/-
  The walk of the law PrintTells.
-/
namespace Go.Proofs.YtgcmjkimiakibaaDoor
open Go.RowKit

/-- one text by both -/
theorem token_both (kd n : Int) (t : ByteArray) (hk : I64 kd) (hm : t.size ≤ 100) : ∃ X : ByteArray,
    (∀ W, PTab W.heap.size W → Calls Tryd.prog 8 #[.agg #[.int .i64 kd, .string t, .int .i64 n]] W (Sg X W)) ∧
    (∀ W, Calls Tryd.prog 9 #[.agg #[.int .i64 kd, .string t, .int .i64 n]] W (Sg X W)) := by
  by_cases ho : Pr.OneU (kd, t, n)
  · obtain ⟨⟨k, cs, m⟩, e, hp⟩ := ho
    unfold Pr.toTok at e
    simp only [Prod.mk.injEq] at e
    obtain ⟨rfl, rfl, rfl⟩ := e
    exact ⟨_, fun W h => token_yes (kd, cs, n) hp hk (by show (Tk.str cs).size ≤ 10000; omega) W h, fun W => rtoken_yes kd n cs hp (by omega) W⟩
  · exact ⟨⟨#[]⟩, fun W h => token_no kd n t hk (by omega) ho W h, fun W => rtoken_no kd n t (by omega) ho W⟩
theorem print_both (us : List Tk.Tok) (hF : Pr.Fair us) (hw : Pr.Wf us) : ∃ X : ByteArray,
    (∀ (A : Option Addr) (cap : Nat) (W : World), us.length ≤ cap → Ts W W.heap.size A us → PTab W.heap.size W → Calls Tryd.prog 12 #[.slice A us.length cap] W (Sg X W)) ∧
    (∀ (A : Option Addr) (cap : Nat) (W : World), Ts W W.heap.size A us → Calls Tryd.prog 13 #[.slice A us.length cap] W (Sg X W)) := by
  by_cases hr : Pr.RightU us
  · obtain ⟨_, ps, rfl, hp⟩ := (Pr.rightU_iff us).1 hr
    have hl : (ps.map Pr.toTok).length = ps.length := by simp
    refine ⟨Tk.str (Pr.prL none ps), fun A cap W hc h1 h2 => ?_, fun A cap W h1 => ?_⟩
    · rw [hl]
      exact printP_yes ps hF hw hr (Pr.right_pt hp) A cap (by omega) W h1 h2
    · rw [hl]
      exact rprintP_yes ps hF hr (Pr.right_pt hp) A cap W h1
  · exact ⟨⟨#[]⟩, fun A cap W hc h1 h2 => printP_no us hF hw hr A cap hc W h1 h2, fun A cap W h1 => rprintP_no us hF hr A cap W h1⟩
theorem right_both (us : List Tk.Tok) (hF : Pr.Fair us) (hw : Pr.Wf us) : ∃ b : Bool,
    (∀ (A : Option Addr) (cap : Nat) (W : World), us.length ≤ cap → Ts W W.heap.size A us → PTab W.heap.size W → Calls Tryd.prog 10 #[.slice A us.length cap] W (Bo b W)) ∧
    (∀ (A : Option Addr) (cap : Nat) (W : World), Ts W W.heap.size A us → Calls Tryd.prog 11 #[.slice A us.length cap] W (Bo b W)) := by
  by_cases hr : Pr.RightU us
  · exact ⟨true, fun A cap W hc h1 h2 => rightP_any us hF hw true (by simp [hr]) A cap hc W h1 h2, fun A cap W h1 => rright_any us hF true (by simp [hr]) A cap W h1⟩
  · exact ⟨false, fun A cap W hc h1 h2 => rightP_any us hF hw false (by simp [hr]) A cap hc W h1 h2, fun A cap W h1 => rright_any us hF false (by simp [hr]) A cap W h1⟩
set_option maxHeartbeats 8000000 in
set_option maxRecDepth 100000 in
theorem tells_any (us : List Tk.Tok) (hn : us.length ≤ 9223372036854775807) (hw : Pr.Wf us) (A : Option Addr) (cap : Nat) (hc : us.length ≤ cap) (w : World) (h : Ts w w.heap.size A us) (hT : PTab w.heap.size w) :
    Calls Tryd.prog 3 #[.slice A us.length cap] w (Bo true w) := by
  have HT := Lib.hid hT
  have H := Lib.hid h
  have HW := Lib.hid hw
  by_cases hF : Pr.Fair us
  · have CF := Lib.hid (few_any us hn true (by simp [hF]) A cap w h)
    obtain ⟨X, hx1, hx2⟩ := print_both us hF hw
    obtain ⟨b, hb1, hb2⟩ := right_both us hF hw
    have CX1 : Hid (∀ W, Below w.heap.size w W → Calls Tryd.prog 12 #[.slice A us.length cap] W (Sg X W)) := Lib.hid fun W hb => hx1 A cap W hc (h.next hb) (hT.next hb)
    have CX2 : Hid (∀ W, Below w.heap.size w W → Calls Tryd.prog 13 #[.slice A us.length cap] W (Sg X W)) := Lib.hid fun W hb => hx2 A cap W (h.next hb)
    have CB1 : Hid (∀ W, Below w.heap.size w W → Calls Tryd.prog 10 #[.slice A us.length cap] W (Bo b W)) := Lib.hid fun W hb => hb1 A cap W hc (h.next hb) (hT.next hb)
    have CB2 : Hid (∀ W, Below w.heap.size w W → Calls Tryd.prog 11 #[.slice A us.length cap] W (Bo b W)) := Lib.hid fun W hb => hb2 A cap W (h.next hb)
    have CA : Hid (∀ W, Below w.heap.size w W → Calls Tryd.prog 7 #[] W (Bo true W)) := Lib.hid fun W hb => awake_any W (hT.next hb)
    have hm := hF.1
    have HF := Lib.hid hF
    clear hx1 hx2 hb1 hb2 h hT hw hF
    go_enter Tryd.func3, Tryd.ntmps3
    go_wp2_with (first | (go_at_call 6; ((with_reducible refine (CF.out).mono ?_); rintro e w1 ⟨rfl, rfl⟩)))
    go_loopw [11] (fun v11 wr => ∃ k : Nat, k ≤ us.length ∧ v11 = .int .i64 k ∧ Hid (Below w.heap.size w wr)) (fun v11 _ => us.length - (RowKit.intOf v11).toNat)
    case atStart => exact ⟨0, Nat.zero_le _, rfl, Lib.hid (Below.refl _ _)⟩
    case round =>
      obtain ⟨k, hk, rfl, HB⟩ := hrel
      by_cases hlt : k < us.length
      · have HR := Lib.hid (H.out.next HB.out)
        obtain ⟨bb, off, rfl, hbb, hp⟩ := HR.out (by omega)
        obtain ⟨p0, p1, p2⟩ := hp k hlt
        have hsz := HF.out.2 k hlt
        have hi := (HW.out k hlt).1
        clear hp
        have HTr := Lib.hid (HT.out.next HB.out)
        generalize Tk.tk us k = u at *
        obtain ⟨kd, t, n⟩ := u
        simp only at p0 p1 p2 hsz hi
        obtain ⟨Y, hy1, hy2⟩ := token_both kd n t hi hsz
        obtain ⟨W0, hW⟩ : ∃ W0, W0 = wr.alloc (.cells #[.int .i64 kd, .string t, .int .i64 n] 26) := ⟨_, rfl⟩
        have hb0 : Below wr.heap.size wr W0 := by rw [hW]; exact (Below.refl _ _).alloc (Nat.le_refl _) _
        have k0 : W0.heap[wr.heap.size]? = some (.cells #[.int .i64 kd, .string t, .int .i64 n] 26 (0, 0)) := by rw [hW]; exact heap_alloc_new wr _
        obtain ⟨q0, q1, q2⟩ := tok3_cells k0
        have HK0 := Lib.hid k0
        have HB0 := Lib.hid hb0
        have hs0 : wr.heap.size < W0.heap.size := by rw [hW]; simp
        have CT1 : Hid (∀ W, Below W0.heap.size W0 W → Calls Tryd.prog 8 #[.agg #[.int .i64 kd, .string t, .int .i64 n]] W (Sg Y W)) := Lib.hid fun W hb => hy1 W (HTr.out.next (below_next HB0.out hb))
        have CT2 := Lib.hid hy2
        clear hy1 hy2 hb0 k0
        go_upto_region 6 with fail
        rw [← hW]
        clear hW
        go_region_with (first | (go_at_call 8; ((with_reducible refine (CT1.out _ (Below.refl _ _).drew).mono ?_); rintro e w2 ⟨rfl, b2⟩; have HB2 := Lib.hid ((Below.refl W0.heap.size W0).drew.trans b2); have r0 := (HB2.out.cell (p := ⟨wr.heap.size, 0, none⟩) hs0).trans q0; have r1 := (HB2.out.cell (p := ⟨wr.heap.size, 1, none⟩) hs0).trans q1; have r2 := (HB2.out.cell (p := ⟨wr.heap.size, 2, none⟩) hs0).trans q2; clear b2)) | (go_at_call 9; ((with_reducible refine (CT2.out _).mono ?_); rintro e w3 ⟨rfl, b3⟩; have HB3 := Lib.hid (below_next HB2.out b3); clear b3)))
        all_goals
          go_wp2_with fail
          go_roundw
          case rel => exact ⟨k + 1, by omega, by go_num, Lib.hid (below_next HB.out (below_next HB0.out HB3.out))⟩
          case measure => simp [RowKit.intOf]; omega
      · have C1 := Lib.hid (CB1.out _ HB.out)
        clear CB1
        go_wp2_with (first | (go_at_call 10; ((with_reducible refine (C1.out).mono ?_); rintro e w2 ⟨rfl, b2⟩; have HB2 := Lib.hid (below_next HB.out b2); have C2 := Lib.hid (CB2.out _ HB2.out); clear b2)) | (go_at_call 11; ((with_reducible refine (C2.out).mono ?_); rintro e w3 ⟨rfl, b3⟩; have HB3 := Lib.hid (below_next HB2.out b3); have C3 := Lib.hid (CX1.out _ HB3.out); clear b3)) | (go_at_call 12; ((with_reducible refine (C3.out).mono ?_); rintro e w4 ⟨rfl, b4⟩; have HB4 := Lib.hid (below_next HB3.out b4); have C4 := Lib.hid (CX2.out _ HB4.out); clear b4)) | (go_at_call 13; ((with_reducible refine (C4.out).mono ?_); rintro e w5 ⟨rfl, b5⟩; have HB5 := Lib.hid (below_next HB4.out b5); have C5 := Lib.hid (CA.out _ HB5.out); clear b5)) | (go_at_call 7; ((with_reducible refine (C5.out).mono ?_); rintro e w6 ⟨rfl, b6⟩; have HB6 := Lib.hid (below_next HB5.out b6); clear b6)))
        go_ret
        exact ⟨rfl, HB6.out⟩
  · have CF := Lib.hid (few_any us hn false (by simp [hF]) A cap w h)
    have CA := Lib.hid (awake_any w hT)
    clear h hT hw hF
    go_enter Tryd.func3, Tryd.ntmps3
    go_wp2_with (first | (go_at_call 6; ((with_reducible refine (CF.out).mono ?_); rintro e w1 ⟨rfl, rfl⟩)) | (go_at_call 7; ((with_reducible refine (CA.out).mono ?_); rintro e w2 ⟨rfl, b2⟩)))
    go_ret
    exact ⟨rfl, b2⟩
end Go.Proofs.YtgcmjkimiakibaaDoor
