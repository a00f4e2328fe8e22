/-
  The walk of Scan.
-/
import Derived.Test.YtllmjggejbdpcaaGreatDoorGan
import Derived.Test.YtllmjggejbdpcaaGreatDoorGap
import Derived.Test.YtllmjggejbdpcaaGreatDoorGae
import Derived.Test.YtllmjggejbdpcaaGreatDoorGad
import Derived.Test.YtllmjggejbdpcaaGreatDoorGaj
import Derived.Test.YtllmjggejbdpcaaGreatDoorGam
import Derived.Test.YtllmjggejbdpcaaGreatDoorGag
import Derived.Lib.SlBytesConst
import Derived.LoopTactic
import Derived.IntWalk
import Derived.Deep.RegionHeld3
import Derived.Deep.RegionWith
import Derived.BigGuard
set_option maxHeartbeats 16000000
set_option maxRecDepth 100000
namespace Go.Proofs.YtllmjggejbdpcaaGreatDoor
open Go.RowKit
def ScnAt (g : Nat) (A : Option Addr) (cap : Nat) (l : List Int) (pl : ByteArray) (w : World) (r : Nat) (v5 : Value) (wr : World) : Prop :=
 ∃ (k : Nat) (ts : List Tk.Tok), k <= l.length /\ l.length - k <= r /\ ts.length <= k /\ Hid (Tk.scan l 0 = ts ++ Tk.scan l k) /\ Hid (wr.ownsRow (g + 1) 70 3 v5 ts.length (Tk.cells ts)) /\ Hid (Below w.heap.size w wr) /\ Sc wr g A cap l pl k /\ w.heap.size <= wr.heap.size
theorem scan_any (bl : List Int) (hl : Ru.By bl) (A0 : Option Addr) (cap0 : Nat) (w : World) (hm : bl.length <= 65000) (ht : (Tk.scan (Ru.rd bl) 0).length < 16384) (hcap : bl.length <= cap0) (hT : UTab w.heap.size w) (hA : Bs w w.heap.size .u8 A0 bl) :
 Calls Tryz.prog 27 #[.slice A0 bl.length cap0] w (Toks (Tk.scan (Ru.rd bl) 0) w) := by
 obtain ⟨i0, hi, hz0, hz1, hz2⟩ := info_parts Tryz.infoTok
 have CR := Lib.hid ((read_told bl hl A0 cap0 w (by omega) hcap hT hA).mono fun _ _ h => told h)
 have hC : Tk.Chr (Ru.rd bl) := Tk.rd_chr hl
 have HC := Lib.hid hC
 have hlen := Ru.rd_len' bl
 clear hA hl hT hC
 generalize Ru.rd bl = l at *
 have CN : Hid (∀ (A : Option Addr) (cap : Nat) (w1 : World), Bs w1 w1.heap.size .i32 A l -> Calls Tryz.prog 47 #[.slice A l.length cap] w1 (NewS l w1)) := Lib.hid fun A cap w1 h => newScanner_any l HC.out A cap w1 (by omega) h
 have HTN := Lib.hid ht
 clear ht
 go_enter Tryz.func27, Tryz.ntmps27
 go_wp2_with (first | (go_at_call 48; ((with_reducible refine (CR.out).mono ?_); rintro e w1 ⟨A1, c1, rfl, hc1, hB1, b1⟩)) | (go_at_call 47; ((with_reducible refine (CN.out _ _ _ hB1).mono ?_); rintro e w2 ⟨g, A, cap, rfl, hg, S, b2⟩)))
 have HB : Hid (Below w.heap.size w w2) := Lib.hid (below_next b1 b2)
 have hwg : w.heap.size <= g := Nat.le_trans b1.size hg
 have hws : w.heap.size <= w2.heap.size := Nat.le_trans b1.size b2.size
 clear b1 b2 hg hB1 CR CN
 have hPL := Tk.plainT_data l
 generalize Tk.plainT l = pl at *
 have HPL := Lib.hid hPL
 clear hPL
 go_loopg [5] l.length (fun r v5 wr => ScnAt g A cap l pl w r v5 wr)
 case atStart => exact ⟨0, [], by omega, by omega, by simp, Lib.hid rfl, Lib.hid (World.ownsRow_nil _ _ _ _), HB, S, hws⟩
 case round =>
  clear S HB hws
  obtain ⟨k, ts, hk, hr, hts, HS, HO, HB, S, hws⟩ := hrel
  obtain ⟨A5, c5, hv, hc5⟩ := row_slice HO.out
  subst hv
  have hts2 : ts.length < 16384 := by have := HTN.out; rw [HS.out, List.length_append] at this; omega
  have n16 : ((ts.length : Int) == 16384) = false := Ru.eq_f (by omega)
  have hc3 : ts.length + 1 <= maxLen := by unfold maxLen; omega
  have hc4 : (ts.length + 1) * 32 <= 140737488355328 := by omega
  have C0 : Hid (∀ w', Sc w' g A cap l pl k -> Calls Tryz.prog 49 #[.pointer (some ⟨g, 0, none⟩), .int .i64 0] w' (Stp g A cap l pl k (.int .i32 (Tk.at' l k)) w')) := Lib.hid fun w' h => peek_any 0 0 rfl (by omega) hk (by omega) h
  by_cases hlt : k < l.length
  ·have ha := HC.out.g hlt
   have n1 := Ru.ne_t (show ¬ Ru.g l k = -1 by omega)
   by_cases hgap : Ru.whiB (Tk.at' l k) = true ∨ Tk.opn l k = true
   ·have hsl := Tk.sp_le l k false hk
    have hsg : k < (Tk.sp l k false).1 := Tk.sp_gt hgap
    have HD : Hid (Tk.scan l 0 = (ts ++ Tk.spTok (Tk.sp l k false).2) ++ Tk.scan l (Tk.sp l k false).1) := Lib.hid (by rw [HS.out, Tk.scan_gap hlt, List.append_assoc])
    have X0 : Hid (∀ w', Sc w' g A cap l pl k -> Calls Tryz.prog 50 #[.pointer (some ⟨g, 0, none⟩)] w' (Stp g A cap l pl (Tk.sp l k false).1 (GapV (Tk.sp l k false).2) w')) := Lib.hid fun w' h => next_gap HC.out (by omega) hk hgap h
    rw [Tk.at_in hlt] at C0
    clear HS hgap
    generalize Ru.g l k = y at *
    generalize Tk.sp l k false = s at *
    obtain ⟨j, b⟩ := s
    simp only at hsl hsg HD X0
    cases b
    ·go_wp2_with (first | (go_at_call 49; (first | (with_reducible refine (C0.out _ S).mono ?_)); rintro e w1 ⟨rfl, S, m1⟩; have HO := Lib.hid (own_mv HO.out m1 (Nat.lt_succ_self g)); have HB := Lib.hid (HB.out.trans (m1.below hwg hws)); have hws := Nat.le_trans hws m1.size; clear m1) | (go_at_call 50; (first | (with_reducible refine (X0.out _ S).mono ?_)); rintro e w1 ⟨he, S, m1⟩; unfold GapV tokV at he; subst he; have HO := Lib.hid (own_mv HO.out m1 (Nat.lt_succ_self g)); have HB := Lib.hid (HB.out.trans (m1.below hwg hws)); have hws := Nat.le_trans hws m1.size; clear m1))
     go_roundg (l.length - j)
     case measure => omega
     case rel => exact ⟨j, ts, by omega, by omega, by omega, Lib.hid (by rw [HD.out]; simp [Tk.spTok]), Lib.hid (HO.out.alloc _), Lib.hid (HB.out.alloc hws _), S.alloc _, by simp; omega⟩
    ·go_wp2_with (first | (go_at_call 49; (first | (with_reducible refine (C0.out _ S).mono ?_)); rintro e w1 ⟨rfl, S, m1⟩; have HO := Lib.hid (own_mv HO.out m1 (Nat.lt_succ_self g)); have HB := Lib.hid (HB.out.trans (m1.below hwg hws)); have hws := Nat.le_trans hws m1.size; clear m1) | (go_at_call 50; (first | (with_reducible refine (X0.out _ S).mono ?_)); rintro e w1 ⟨he, S, m1⟩; unfold GapV tokV at he; subst he; have HO := Lib.hid (own_mv HO.out m1 (Nat.lt_succ_self g)); have HB := Lib.hid (HB.out.trans (m1.below hwg hws)); have hws := Nat.le_trans hws m1.size; clear m1) | (at_builtin; have E1 := (HO.out.alloc (.cells #[.int .i64 (1), .string (⟨#[]⟩), .int .i64 (0)] 70)).alloc (.cells #[.int .i64 (1), .string (⟨#[]⟩), .int .i64 (0)] 70); have E2 : g + 1 <= ((w1.alloc (.cells #[.int .i64 (1), .string (⟨#[]⟩), .int .i64 (0)] 70)).alloc (.cells #[.int .i64 (1), .string (⟨#[]⟩), .int .i64 (0)] 70)).heap.size := (by have := S.lt; simp; omega); refine wpList_append_own _ rfl _ _ 32 rfl (g + 1) 70 i0 zTok 3 32 Tryz.underlying32 hi hz0 hz1 hz2 rfl (by decide) _ _ _ rfl E1 ⟨w1.heap.size + 1, 0, none⟩ 1 1 [.int .i64 (1), .string (⟨#[]⟩), .int .i64 (0)] rfl rfl (three_cell _ _ (by simp) _ _ _) (three_ok _ _ _) hc3 hc4 E2 ?_; intro v' w3 hown3 hgrow _; have HO3 := Lib.hid (cells_next (t := (1, ⟨#[]⟩, 0)) hown3); have HG := Lib.hid ((((Below.refl (g + 1) w1).alloc S.lt (.cells #[.int .i64 (1), .string (⟨#[]⟩), .int .i64 (0)] 70)).alloc (by have := S.lt; simp; omega) (.cells #[.int .i64 (1), .string (⟨#[]⟩), .int .i64 (0)] 70)).grown hgrow E2 (fun x hx => (HO.out.lt x hx).1)); have S := S.below HG.out (Nat.lt_succ_self g); have HB := Lib.hid (HB.out.trans (HG.out.mono (Nat.le_succ_of_le hwg))); have hws := Nat.le_trans hws HG.out.size; clear hown3 hgrow E1 E2 HG))
     go_roundg (l.length - j)
     case measure => omega
     case rel => exact ⟨j, ts ++ [(1, ⟨#[]⟩, 0)], by omega, by omega, by simp; omega, Lib.hid (by rw [HD.out]; simp [Tk.spTok]), HO3, HB, S, hws⟩
   ·have hw : Ru.whiB (Tk.at' l k) = false := by rw [Bool.eq_false_iff]; exact fun h => hgap (.inl h)
    have ho : Tk.opn l k = false := by rw [Bool.eq_false_iff]; exact fun h => hgap (.inr h)
    have hnx := Tk.nxt_le hlt
    have HD : Hid (Tk.scan l 0 = (ts ++ [Tk.tokOf (Tk.nxt l k)]) ++ Tk.scan l (Tk.nxt l k).2.2.2) := Lib.hid (by rw [HS.out, Tk.scan_tok hlt hw ho, List.append_assoc]; rfl)
    have X0 : Hid (∀ w', Sc w' g A cap l pl k -> Calls Tryz.prog 50 #[.pointer (some ⟨g, 0, none⟩)] w' (Stp g A cap l pl (Tk.nxt l k).2.2.2 (NxtV (Tk.nxt l k)) w')) := Lib.hid fun w' h => next_tok HC.out (by omega) hlt HPL.out (by rw [<- Tk.at_in hlt]; exact hw) ho h
    rw [Tk.at_in hlt] at C0
    clear HS hgap hw ho
    generalize Ru.g l k = y at *
    generalize Tk.nxt l k = s at *
    obtain ⟨kd, tx, nv, j⟩ := s
    simp only at hnx HD X0
    go_wp2_with (first | (go_at_call 49; (first | (with_reducible refine (C0.out _ S).mono ?_)); rintro e w1 ⟨rfl, S, m1⟩; have HO := Lib.hid (own_mv HO.out m1 (Nat.lt_succ_self g)); have HB := Lib.hid (HB.out.trans (m1.below hwg hws)); have hws := Nat.le_trans hws m1.size; clear m1) | (go_at_call 50; (first | (with_reducible refine (X0.out _ S).mono ?_)); rintro e w1 ⟨he, S, m1⟩; unfold NxtV tokV at he; subst he; have HO := Lib.hid (own_mv HO.out m1 (Nat.lt_succ_self g)); have HB := Lib.hid (HB.out.trans (m1.below hwg hws)); have hws := Nat.le_trans hws m1.size; clear m1) | (at_builtin; have E1 := (HO.out.alloc (.cells #[.int .i64 (kd), .string (tx), .int .i64 (nv)] 70)).alloc (.cells #[.int .i64 (kd), .string (tx), .int .i64 (nv)] 70); have E2 : g + 1 <= ((w1.alloc (.cells #[.int .i64 (kd), .string (tx), .int .i64 (nv)] 70)).alloc (.cells #[.int .i64 (kd), .string (tx), .int .i64 (nv)] 70)).heap.size := (by have := S.lt; simp; omega); refine wpList_append_own _ rfl _ _ 32 rfl (g + 1) 70 i0 zTok 3 32 Tryz.underlying32 hi hz0 hz1 hz2 rfl (by decide) _ _ _ rfl E1 ⟨w1.heap.size + 1, 0, none⟩ 1 1 [.int .i64 (kd), .string (tx), .int .i64 (nv)] rfl rfl (three_cell _ _ (by simp) _ _ _) (three_ok _ _ _) hc3 hc4 E2 ?_; intro v' w3 hown3 hgrow _; have HO3 := Lib.hid (cells_next (t := (kd, tx, nv)) hown3); have HG := Lib.hid ((((Below.refl (g + 1) w1).alloc S.lt (.cells #[.int .i64 (kd), .string (tx), .int .i64 (nv)] 70)).alloc (by have := S.lt; simp; omega) (.cells #[.int .i64 (kd), .string (tx), .int .i64 (nv)] 70)).grown hgrow E2 (fun x hx => (HO.out.lt x hx).1)); have S := S.below HG.out (Nat.lt_succ_self g); have HB := Lib.hid (HB.out.trans (HG.out.mono (Nat.le_succ_of_le hwg))); have hws := Nat.le_trans hws HG.out.size; clear hown3 hgrow E1 E2 HG))
    go_roundg (l.length - j)
    case measure => omega
    case rel => exact ⟨j, ts ++ [(kd, tx, nv)], by omega, by omega, by simp; omega, HD, HO3, HB, S, hws⟩
  ·have HE : Hid (Tk.scan l 0 = ts) := Lib.hid (by rw [HS.out, Tk.scan_end hlt, List.append_nil])
   rw [Tk.at_out hlt] at C0
   clear HS
   go_wp2_with (go_at_call 49; (first | (with_reducible refine (C0.out _ S).mono ?_)); rintro e w1 ⟨rfl, S, m1⟩; have HO := Lib.hid (own_mv HO.out m1 (Nat.lt_succ_self g)); have HB := Lib.hid (HB.out.trans (m1.below hwg hws)); have hws := Nat.le_trans hws m1.size; clear m1)
   go_ret2
   exact ⟨_, rfl, by rw [HE.out]; exact own_le HO.out (Nat.le_succ_of_le hwg), HB.out⟩
theorem scan_told6 (bl : List Int) (hl : Ru.By bl) (A0 : Option Addr) (cap0 : Nat) (w : World) (hm : bl.length <= 4000) (hcap : bl.length <= cap0) (hT : UTab w.heap.size w) (hA : Bs w w.heap.size .u8 A0 bl) :
 Calls Tryz.prog 27 #[.slice A0 bl.length cap0] w (Told3 (Tk.scan (Ru.rd bl) 0) w) := (scan_any bl hl A0 cap0 w (by omega) (by have h1 := Tk.scan_len (Ru.rd bl) _ 0 (Nat.le_refl _); have h2 := Ru.rd_len' bl; omega) hcap hT hA).mono fun _ _ h => told3 h
abbrev awCells6 : Obj := .cells #[.int .u8 97, .int .u8 123, .int .u8 98, .int .u8 58, .int .u8 99, .int .u8 33, .int .u8 105, .int .u8 109, .int .u8 112, .int .u8 111, .int .u8 114, .int .u8 116, .int .u8 97, .int .u8 110, .int .u8 116, .int .u8 59, .int .u8 100, .int .u8 125, .int .u8 64, .int .u8 120, .int .u8 32, .int .u8 121, .int .u8 59, .int .u8 64, .int .u8 112, .int .u8 97, .int .u8 103, .int .u8 101, .int .u8 32, .int .u8 58, .int .u8 108, .int .u8 101, .int .u8 102, .int .u8 116, .int .u8 123, .int .u8 109, .int .u8 97, .int .u8 114, .int .u8 103, .int .u8 105, .int .u8 110, .int .u8 58, .int .u8 49, .int .u8 101, .int .u8 109, .int .u8 59, .int .u8 64, .int .u8 116, .int .u8 111, .int .u8 112, .int .u8 45, .int .u8 108, .int .u8 101, .int .u8 102, .int .u8 116, .int .u8 123, .int .u8 99, .int .u8 111, .int .u8 110, .int .u8 116, .int .u8 101, .int .u8 110, .int .u8 116, .int .u8 58, .int .u8 39, .int .u8 120, .int .u8 39, .int .u8 125, .int .u8 125] 5 (69, 70)
def awV6 : Array Value := (Rl.awB.map fun c => Value.int .u8 c).toArray
theorem aw_bs6 (w : World) : Bs (w.alloc awCells6) (w.alloc awCells6).heap.size .u8 (some ⟨w.heap.size, 0, none⟩) Rl.awB := by
 have e : awCells6 = .cells awV6 5 (69, 70) := rfl
 rw [e]
 intro _
 refine ⟨w.heap.size, 0, rfl, by simp, fun j hj => ?_⟩
 rw [Nat.zero_add, World.cell?_alloc_mark]
 show awV6[j]? = some (.int .u8 (Ru.g Rl.awB j))
 unfold awV6
 rw [List.getElem?_toArray, List.getElem?_map, List.getElem?_eq_getElem hj, Ru.g_eq hj]
 rfl
theorem aw_deep : ¬ Ns.deep Rl.awT := by
 rintro ⟨k, hk, h⟩
 have := Ns.opn_len Rl.awT (k + 1)
 have : Rl.awT.length = 30 := rfl
 omega
theorem aw_par : ParC Rl.sdU Rl.awT Rl.awL 0 := by
 have e := Rl.aw_parse Rl.awS
 exact .inr (.inr ⟨aw_deep, by rw [e]; decide, e.symm, rfl⟩)
structure AwR (b off : Nat) (w : World) : Prop where
 d0 : ∃ b2 off2 c2, w.cell? ⟨b, off + 2, none⟩ = some (.slice (some ⟨b2, off2, none⟩) 1 c2) /\ w.cell? ⟨b2, off2 + 2, none⟩ = some (.bool true)
 k1 : w.cell? ⟨b, off + 4, none⟩ = some (.int .i64 2)
 m1 : ∃ A3 c3, w.cell? ⟨b, off + 4 + 3, none⟩ = some (.slice A3 1 c3)
theorem awR_of {w : World} {A : Option Addr} (h : Rl.Cells 4 (Rl.RulQ true) w A Rl.awL) : ∃ b off, A = some ⟨b, off, none⟩ /\ AwR b off w := by
 obtain ⟨b, off, hA, hb, hp⟩ := rul_at h (by decide)
 obtain ⟨A1, c1, A2, c2, A3, c3, _, _, _, r2, _, _, _, _, p2, _⟩ := hp 0 (by decide)
 obtain ⟨b2, off2, hA2, _, hp2⟩ := dec_at r2 (by decide)
 obtain ⟨_, _, _, _, _, _, z2⟩ := hp2 0 (by decide)
 obtain ⟨B1, e1, B2, e2, B3, e3, _, _, _, _, _, _, q0, _, _, q3⟩ := hp 1 (by decide)
 subst hA2
 exact ⟨b, off, hA, ⟨b2, off2, c2, p2, z2⟩, q0, B3, e3, q3⟩
theorem lawake_any (w : World) (hT : PTab w.heap.size w) (hB : BTab w.heap.size w) : Calls Tryz.prog 9 #[] w (Yes w) := by
 have hb0 : Below w.heap.size w (w.alloc awCells6) := (Below.refl _ _).alloc (Nat.le_refl _) _
 have hF : Pr.FairB Rl.awT := by
  have := Rl.scan_fair (l := Ru.rd Rl.awB) (by rw [Rl.awB_rd]; decide)
  rwa [Rl.aw_scan] at this
 have hwf : Pr.Wf Rl.awT := by
  have := Rl.scan_wf (Ru.rd Rl.awB)
  rwa [Rl.aw_scan] at this
 have CP : Hid (Calls Tryz.prog 10 #[.slice (some ⟨w.heap.size, 0, none⟩) 69 69] (w.alloc awCells6) (ToldR Rl.awL 0 (w.alloc awCells6))) := Lib.hid (cparse_any Rl.sdU (csound_any Rl.sdU Rl.sdU_is) Rl.awT hF hwf Rl.awL 0 aw_par (some ⟨w.heap.size, 0, none⟩) 69 69 (w.alloc awCells6) (hT.next hb0) (hB.next hb0) (by
  have h := scan_told6 Rl.awB Rl.awB_by (some ⟨w.heap.size, 0, none⟩) 69 (w.alloc awCells6) (by decide) (by decide) (hT.next hb0).u (aw_bs6 w)
  rw [Rl.aw_scan] at h
  exact h))
 have CB : Hid (∀ W, Below w.heap.size w W -> Calls Tryz.prog 18 #[.string ⟨#[76, 101, 102, 116, 45, 84, 111, 112]⟩] W (Nu 15 W)) := Lib.hid fun W hb => by
  have := cbox_any ⟨#[76, 101, 102, 116, 45, 84, 111, 112]⟩ (by decide) W (hB.next hb)
  rwa [show Rl.box ⟨#[76, 101, 102, 116, 45, 84, 111, 112]⟩ = 15 by decide +kernel] at this
 have CX : Hid (∀ W, Below w.heap.size w W -> Calls Tryz.prog 22 #[] W (ToldS Rl.boxes W)) := Lib.hid fun W hb => cboxes_any W (hB.next hb)
 have HB0 := Lib.hid hb0
 have hll : Hid (Rl.awL.length = 2) := Lib.hid rfl
 have hbl : Hid (Rl.boxes.length = 16) := Lib.hid rfl
 have kc := fun (W : World) (C : Array Value) (n c : Nat) => Lib.run_convert_bytes_const (P := Tryz.prog) W 22 5 C n c Tryz.underlying22 Tryz.underlying5
 clear hT hB hb0 hF hwf
 go_enter Tryz.func9, Tryz.ntmps9
 go_wp2_with (first | (go_at_call 10; ((with_reducible refine (CP.out).mono ?_); rintro e w1 ⟨A, cap, rfl, _, hC, _, b1⟩; obtain ⟨b, off, rfl, ⟨b2, off2, c2, d0, d1⟩, k1, A3, c3, m1⟩ := awR_of hC; rw [hll.out]; have HB1 := Lib.hid (below_next HB0.out b1); clear b1 hC)) | (go_at_call 18; ((with_reducible refine (CB.out _ HB1.out).mono ?_); rintro e w2 ⟨rfl, b2⟩; have HB2 := Lib.hid (below_next HB1.out b2); clear b2)) | (go_at_call 22; ((with_reducible refine (CX.out _ HB2.out).mono ?_); rintro e w3 ⟨AX, cX, rfl, _, _, b3⟩; rw [hbl.out]; have HB3 := Lib.hid (below_next HB2.out b3); clear b3)))
 go_ret
 exact ⟨rfl, HB3.out⟩
theorem few_any (us : List Tk.Tok) (hn : us.length <= 9223372036854775807) (b : Bool) (hb : b = true ↔ Pr.Fair us) (A : Option Addr) (cap : Nat) (w : World) (h : Ts w w.heap.size A us) :
 Calls Tryz.prog 17 #[.slice A us.length cap] w fun e w' => e = .returned (.bool b) /\ w = w' := by
 have H := Lib.hid h
 have HB := Lib.hid hb
 clear h hb
 go_enter Tryz.func17, Tryz.ntmps17
 go_wp2_with fail
 go_loopw [3] (fun v3 wr => ∃ k : Nat, k <= us.length /\ k <= 101 /\ v3 = .int .i64 k /\ Hid (∀ j, j < k -> (Tk.tk us j).2.1.size <= 100) /\ wr = w) (fun v3 _ => 101 - (RowKit.intOf v3).toNat)
 case atStart => exact ⟨0, Nat.zero_le _, by omega, rfl, Lib.hid (fun j hj => by omega), rfl⟩
 case round =>
  obtain ⟨k, hk, hk1, rfl, HK, rfl⟩ := hrel
  by_cases hlt : k < us.length
  ·have d1 : decide (k < us.length) = true := decide_eq_true hlt
   by_cases h100 : k <= 100
   ·have d2 : decide ((k : Int) <= 100) = true := decide_eq_true (by omega)
    have d2' : decide (k <= 100) = true := decide_eq_true h100
    obtain ⟨bb, off, rfl, hbb, hp⟩ := H.out (by omega)
    obtain ⟨_, p1, _⟩ := hp k hlt
    clear hp
    have HN : Hid (¬ (Tk.tk us k).2.1.size <= 100 -> b = false) := Lib.hid (fun hx => by
     cases b with
     | false => rfl
     | true => exact absurd ((HB.out.1 rfl).2 k hlt) hx)
    have HS : Hid ((Tk.tk us k).2.1.size <= 100 -> ∀ j, j < k + 1 -> (Tk.tk us j).2.1.size <= 100) := Lib.hid (fun hx j hj => by
     by_cases e : j = k
     ·subst e; exact hx
     ·exact HK.out j (by omega))
    generalize (Tk.tk us k).2.1 = t at *
    by_cases hz : t.size <= 100
    ·have d3 : decide (100 < (t.size : Int)) = false := decide_eq_false (by omega)
     have d3' : decide (100 < t.size) = false := decide_eq_false (by omega)
     have HV := Lib.hid (HS.out hz)
     clear HN HS hz
     have hwr : IntKind.i64.wrap ((k : Int) + 1) = (k : Int) + 1 := IntWalk.i64_in _ (by omega)
     go_wp2_with fail
     clear hwr
     go_roundw
     case rel => exact ⟨k + 1, hlt, by omega, by go_num, HV, trivial⟩
     case measure => simp [RowKit.intOf]; omega
    ·have d3 : decide (100 < (t.size : Int)) = true := decide_eq_true (by omega)
     have d3' : decide (100 < t.size) = true := decide_eq_true (by omega)
     have HV := Lib.hid (HN.out hz)
     clear HN HS hz
     go_wp2_with fail
     go_ret
     exact ⟨by rw [HV.out]; rfl, rfl⟩
   ·have d2 : decide ((k : Int) <= 100) = false := decide_eq_false (by omega)
    have d2' : decide (k <= 100) = false := decide_eq_false h100
    have d4 : decide ((us.length : Int) <= 100) = false := decide_eq_false (by omega)
    have d4' : decide (us.length <= 100) = false := decide_eq_false (by omega)
    have HV : Hid (b = false) := Lib.hid (by
     cases b with
     | false => rfl
     | true => have := (HB.out.1 rfl).1; omega)
    clear HB
    go_wp2_with fail
    go_ret
    exact ⟨by rw [HV.out]; rfl, rfl⟩
  ·have d1 : decide (k < us.length) = false := decide_eq_false hlt
   by_cases hl : us.length <= 100
   ·have d4 : decide ((us.length : Int) <= 100) = true := decide_eq_true (by omega)
    have d4' : decide (us.length <= 100) = true := decide_eq_true (by omega)
    have HV : Hid (b = true) := Lib.hid (HB.out.2 ⟨hl, fun j hj => HK.out j (by omega)⟩)
    clear HB
    go_wp2_with fail
    go_ret
    exact ⟨by rw [HV.out]; rfl, rfl⟩
   ·have d4 : decide ((us.length : Int) <= 100) = false := decide_eq_false (by omega)
    have d4' : decide (us.length <= 100) = false := decide_eq_false (by omega)
    have HV : Hid (b = false) := Lib.hid (by
     cases b with
     | false => rfl
     | true => have := (HB.out.1 rfl).1; omega)
    clear HB
    go_wp2_with fail
    go_ret
    exact ⟨by rw [HV.out]; rfl, rfl⟩
theorem boxes_at {k : Nat} (h : k < Rl.boxes.length) : Rl.boxes[k] = Rl.bx k := by
 unfold Rl.bx
 rw [List.getD_eq_getElem?_getD, List.getElem?_eq_getElem h]; rfl
theorem idx_at (s : ByteArray) : ∀ (l : List ByteArray) (k : Int), Rl.idx s l k = -1 ∨ ∃ j : Nat, j < l.length /\ Rl.idx s l k = k + j /\ l.getD j ⟨#[]⟩ = s
 | [], k => .inl rfl
 | b :: r, k => by
   rw [Rl.idx]
   by_cases h : b = s
   ·rw [if_pos h]
    exact .inr ⟨0, by simp, by omega, by simpa using h⟩
   ·rw [if_neg h]
    rcases idx_at s r (k + 1) with h1 | ⟨j, h1, h2, h3⟩
    ·exact .inl h1
    ·exact .inr ⟨j + 1, by simp; omega, by rw [h2]; omega, by simpa using h3⟩
theorem box_cases (s : ByteArray) : Rl.box s = -1 ∨ ∃ j : Nat, j < 16 /\ Rl.box s = j /\ Rl.bx j = Ru.lowS s := by
 rcases idx_at (Ru.lowS s) Rl.boxes 0 with h | ⟨j, h1, h2, h3⟩
 ·exact .inl h
 ·exact .inr ⟨j, h1, by unfold Rl.box; rw [h2]; omega, h3⟩
theorem lsound_any (us : List Tk.Tok) (hn : us.length <= 9223372036854775807) (hwf : Pr.Wf us) (A : Option Addr) (cap : Nat) (hcap : us.length <= cap) (s : ByteArray) (hs : s.size <= maxLen) (w : World) (h : Ts w w.heap.size A us) (hT : PTab w.heap.size w) (hB : BTab w.heap.size w) :
 Calls Tryz.prog 5 #[.slice A us.length cap, .string s] w (Yes w) := by
 have CA : Hid (∀ W, Below w.heap.size w W -> Calls Tryz.prog 9 #[] W (Yes W)) := Lib.hid fun W hb => lawake_any W (hT.next hb) (hB.next hb)
 have hmx : s.size <= 9223372036854775807 := Nat.le_trans hs (by decide)
 by_cases hbig : 60 < us.length
 ·have d1 : decide ((60 : Int) < (us.length : Int)) = true := decide_eq_true (by omega)
  clear hT hB h
  go_enter Tryz.func5, Tryz.ntmps5
  go_wp2_with (go_at_call 9; ((with_reducible refine (CA.out _ (Below.refl _ _)).mono ?_); rintro e w1 ⟨rfl, b1⟩; have HB1 := Lib.hid b1; clear b1))
  go_ret
  exact ⟨rfl, HB1.out⟩
 ·have d1 : decide ((60 : Int) < (us.length : Int)) = false := decide_eq_false (by omega)
  by_cases hf : Pr.Fair us
  ·have CF : Hid (Calls Tryz.prog 17 #[.slice A us.length cap] w (Bo true w)) := Lib.hid ((few_any us hn true (by simp [hf]) A cap w h).mono fun e w' hh => ⟨hh.1, hh.2 ▸ Below.refl _ _⟩)
   by_cases hsz : 100 < s.size
   ·have d2 : decide ((100 : Int) < (s.size : Int)) = true := decide_eq_true (by omega)
    clear hT hB h
    go_enter Tryz.func5, Tryz.ntmps5
    go_wp2_with (first | (go_at_call 17; ((with_reducible refine (CF.out).mono ?_); rintro e w0 ⟨rfl, b0⟩; have HB0 := Lib.hid b0; clear b0)) | (go_at_call 9; ((with_reducible refine (CA.out _ HB0.out).mono ?_); rintro e w1 ⟨rfl, b1⟩; have HB1 := Lib.hid (below_next HB0.out b1); clear b1)))
    go_ret
    exact ⟨rfl, HB1.out⟩
   ·have d2 : decide ((100 : Int) < (s.size : Int)) = false := decide_eq_false (by omega)
    have CB : Hid (∀ W, Below w.heap.size w W -> Calls Tryz.prog 18 #[.string s] W (Nu (Rl.box s) W)) := Lib.hid fun W hb => cbox_any s (by omega) W (hB.next hb)
    have CRB : Hid (∀ W, Calls Tryz.prog 21 #[.string s] W (Nu (Rl.box s) W)) := Lib.hid fun W => rbox_any s (by omega) W
    have CRL : Hid (∀ W, Calls Tryz.prog 23 #[.string s] W (Sg (Ru.lowS s) W)) := Lib.hid fun W => rlower_any s (by omega) W
    have CX : Hid (∀ W, Below w.heap.size w W -> Calls Tryz.prog 22 #[] W (ToldS Rl.boxes W)) := Lib.hid fun W hb => cboxes_any W (hB.next hb)
    have CS : Hid (∀ W, Below w.heap.size w W -> Calls Tryz.prog 19 #[.slice A us.length cap] W (Bo (Rl.sdU us) W)) := Lib.hid fun W hb => csound_any Rl.sdU Rl.sdU_is us hf.big hwf A cap W hcap (h.next hb) (hT.next hb)
    have CRS : Hid (∀ W, Below w.heap.size w W -> Calls Tryz.prog 20 #[.slice A us.length cap] W (Bo (Rl.sdU us) W)) := Lib.hid fun W hb => Rl.sdU_c us hf.big A cap W hcap (h.next hb)
    have hbl : Hid (Rl.boxes.length = 16) := Lib.hid rfl
    generalize Rl.sdU us = so at *
    rcases box_cases s with hx | ⟨j, hj, hx, hbx⟩
    ·generalize Rl.box s = bx at *
     have hng : decide (bx < 0) = true := decide_eq_true (by omega)
     have ebx : (bx == bx) = true := by simp
     clear hT hB h hx CX CRL hf
     go_enter Tryz.func5, Tryz.ntmps5
     go_wp2_with (first | (go_at_call 17; ((with_reducible refine (CF.out).mono ?_); rintro e w0 ⟨rfl, b0⟩; have HB0 := Lib.hid b0; clear b0)) | (go_at_call 18; ((with_reducible refine (CB.out _ HB0.out).mono ?_); rintro e w1 ⟨rfl, b1⟩; have HB1 := Lib.hid (below_next HB0.out b1); clear b1)))
     have HB1b := Lib.hid (below_next HB1.out (Below.refl w1.heap.size w1).drew)
     have ess : (so == so) = true := by cases so <;> rfl
     refine wp_region_held_drew (S := fun _ => True) rfl trivial (fun _ => ?_)
     simp only [List.size_toArray, List.length_cons, List.length_nil]
     refine wpAnyH_take (i := 0) (v := .slice A us.length cap) rfl (by kernel_rfl) (by kernel_rfl) (by kernel_rfl) (fun _ _ _ h => h) (Or.inl ⟨by kernel_rfl, ?hy⟩) trivial ?_
     case hy => (intro w9 _; go_simp)
     simp only [Act.put, List.setIfInBounds_toArray]
     refine wpAnyH_take (i := 2) (v := .slice A us.length cap) rfl (by kernel_rfl) (by kernel_rfl) (by kernel_rfl) (fun _ _ _ h => h) (Or.inl ⟨by kernel_rfl, ?hy⟩) trivial ?_
     case hy => (intro w9 _; go_simp)
     simp only [Act.put]
     refine wpAnyH_ready (rs := [1]) (by kernel_rfl) (by simp) ?_
     refine AllReadyH.cons (o := _) rfl (fun K hK => ?_) AllReadyH.nil
     rw [if_pos (by kernel_rfl)]
     go_simp
     refine (CS.out _ HB1b.out).mono ?_
     rintro e1 w1 ⟨rfl, b1⟩
     have HB1 := Lib.hid (below_next HB1b.out b1)
     try go_wp2_with fail
     refine hK.out _ _ trivial (fun _ => ?_)
     clear hK K
     refine wpAnyH_ready (rs := [3]) (by kernel_rfl) (by simp) ?_
     refine AllReadyH.cons (o := _) rfl (fun K hK => ?_) AllReadyH.nil
     rw [if_pos (by kernel_rfl)]
     go_simp
     refine (CRS.out _ HB1.out).mono ?_
     rintro e3 w3 ⟨rfl, b3⟩
     have HB3 := Lib.hid (below_next HB1.out b3)
     try go_wp2_with fail
     refine hK.out _ _ trivial (fun _ => ?_)
     clear hK K
     refine wpAnyH_take (i := 4) (v := .bool true) rfl (by kernel_rfl) (by kernel_rfl) (by kernel_rfl) (fun _ _ _ h => h) (Or.inl ⟨by kernel_rfl, ?hy⟩) trivial ?_
     case hy => (intro w9 _; go_simp)
     simp only [Act.put, List.setIfInBounds_toArray]
     refine wpAnyH_take (i := 5) (v := .bool true) rfl (by kernel_rfl) (by kernel_rfl) (by kernel_rfl) (fun _ _ _ h => h) (Or.inl ⟨by kernel_rfl, ?hy⟩) trivial ?_
     case hy => (intro w9 _; go_simp)
     simp only [Act.put]
     refine wpAnyH_take (i := 6) (v := .int .i64 bx) rfl (by kernel_rfl) (by kernel_rfl) (by kernel_rfl) (fun _ _ _ h => h) (Or.inl ⟨by kernel_rfl, ?hy⟩) trivial ?_
     case hy => (intro w9 _; go_simp)
     simp only [Act.put]
     refine wpAnyH_take (i := 7) (v := .string s) rfl (by kernel_rfl) (by kernel_rfl) (by kernel_rfl) (fun _ _ _ h => h) (Or.inl ⟨by kernel_rfl, ?hy⟩) trivial ?_
     case hy => (intro w9 _; go_simp)
     simp only [Act.put]
     refine wpAnyH_ready (rs := [8]) (by kernel_rfl) (by simp) ?_
     refine AllReadyH.cons (o := _) rfl (fun K hK => ?_) AllReadyH.nil
     rw [if_pos (by kernel_rfl)]
     go_simp
     refine (CRB.out _).mono ?_
     rintro e8 w8 ⟨rfl, b8⟩
     have HB8 := Lib.hid (below_next HB3.out b8)
     try go_wp2_with fail
     refine hK.out _ _ trivial (fun _ => ?_)
     clear hK K
     refine wpAnyH_take (i := 9) (v := .bool true) rfl (by kernel_rfl) (by kernel_rfl) (by kernel_rfl) (fun _ _ _ h => h) (Or.inl ⟨by kernel_rfl, ?hy⟩) trivial ?_
     case hy => (intro w9 _; go_simp)
     simp only [Act.put, List.setIfInBounds_toArray]
     refine wpAnyH_take (i := 10) (v := .bool true) rfl (by kernel_rfl) (by kernel_rfl) (by kernel_rfl) (fun _ _ _ h => h) (Or.inl ⟨by kernel_rfl, ?hy⟩) trivial ?_
     case hy => (intro w9 _; go_simp)
     simp only [Act.put]
     refine wpAnyH_take (i := 11) (v := .bool true) rfl (by kernel_rfl) (by kernel_rfl) (by kernel_rfl) (fun _ _ _ h => h) (Or.inl ⟨by kernel_rfl, ?hy⟩) trivial ?_
     case hy => (intro w9 _; go_simp)
     simp only [Act.put]
     refine wpAnyH_take (i := 12) (v := .int .i64 bx) rfl (by kernel_rfl) (by kernel_rfl) (by kernel_rfl) (fun _ _ _ h => h) (Or.inl ⟨by kernel_rfl, ?hy⟩) trivial ?_
     case hy => (intro w9 _; go_simp)
     simp only [Act.put]
     refine wpAnyH_take (i := 13) (v := .bool true) rfl (by kernel_rfl) (by kernel_rfl) (by kernel_rfl) (fun _ _ _ h => h) (Or.inl ⟨by kernel_rfl, ?hy⟩) trivial ?_
     case hy => (intro w9 _; go_simp)
     simp only [Act.put]
     refine wpAnyH_take (i := 14) (v := .bool true) rfl (by kernel_rfl) (by kernel_rfl) (by kernel_rfl) (fun _ _ _ h => h) (Or.inl ⟨by kernel_rfl, ?hy⟩) trivial ?_
     case hy => (intro w9 _; go_simp)
     simp only [Act.put]
     refine wpAnyH_take (i := 15) (v := undef) rfl (by kernel_rfl) (by kernel_rfl) (by kernel_rfl) (fun _ _ _ h => h) (Or.inr ⟨by kernel_rfl, rfl⟩) trivial ?_
     simp only [Act.put]
     refine wpAnyH_take (i := 16) (v := undef) rfl (by kernel_rfl) (by kernel_rfl) (by kernel_rfl) (fun _ _ _ h => h) (Or.inr ⟨by kernel_rfl, rfl⟩) trivial ?_
     simp only [Act.put]
     refine wpAnyH_take (i := 17) (v := undef) rfl (by kernel_rfl) (by kernel_rfl) (by kernel_rfl) (fun _ _ _ h => h) (Or.inr ⟨by kernel_rfl, rfl⟩) trivial ?_
     simp only [Act.put]
     refine wpAnyH_take (i := 18) (v := undef) rfl (by kernel_rfl) (by kernel_rfl) (by kernel_rfl) (fun _ _ _ h => h) (Or.inr ⟨by kernel_rfl, rfl⟩) trivial ?_
     simp only [Act.put]
     refine wpAnyH_take (i := 19) (v := undef) rfl (by kernel_rfl) (by kernel_rfl) (by kernel_rfl) (fun _ _ _ h => h) (Or.inr ⟨by kernel_rfl, rfl⟩) trivial ?_
     simp only [Act.put]
     refine wpAnyH_take (i := 20) (v := undef) rfl (by kernel_rfl) (by kernel_rfl) (by kernel_rfl) (fun _ _ _ h => h) (Or.inr ⟨by kernel_rfl, rfl⟩) trivial ?_
     simp only [Act.put]
     refine wpAnyH_take (i := 21) (v := undef) rfl (by kernel_rfl) (by kernel_rfl) (by kernel_rfl) (fun _ _ _ h => h) (Or.inr ⟨by kernel_rfl, rfl⟩) trivial ?_
     simp only [Act.put]
     refine wpAnyH_take (i := 22) (v := undef) rfl (by kernel_rfl) (by kernel_rfl) (by kernel_rfl) (fun _ _ _ h => h) (Or.inr ⟨by kernel_rfl, rfl⟩) trivial ?_
     simp only [Act.put]
     refine wpAnyH_take (i := 23) (v := undef) rfl (by kernel_rfl) (by kernel_rfl) (by kernel_rfl) (fun _ _ _ h => h) (Or.inr ⟨by kernel_rfl, rfl⟩) trivial ?_
     simp only [Act.put]
     refine wpAnyH_take (i := 24) (v := undef) rfl (by kernel_rfl) (by kernel_rfl) (by kernel_rfl) (fun _ _ _ h => h) (Or.inr ⟨by kernel_rfl, rfl⟩) trivial ?_
     simp only [Act.put]
     refine wpAnyH_take (i := 25) (v := undef) rfl (by kernel_rfl) (by kernel_rfl) (by kernel_rfl) (fun _ _ _ h => h) (Or.inr ⟨by kernel_rfl, rfl⟩) trivial ?_
     simp only [Act.put]
     refine wpAnyH_take (i := 26) (v := undef) rfl (by kernel_rfl) (by kernel_rfl) (by kernel_rfl) (fun _ _ _ h => h) (Or.inr ⟨by kernel_rfl, rfl⟩) trivial ?_
     simp only [Act.put]
     refine wpAnyH_take (i := 27) (v := undef) rfl (by kernel_rfl) (by kernel_rfl) (by kernel_rfl) (fun _ _ _ h => h) (Or.inr ⟨by kernel_rfl, rfl⟩) trivial ?_
     simp only [Act.put]
     refine wpAnyH_take (i := 28) (v := .bool true) rfl (by kernel_rfl) (by kernel_rfl) (by kernel_rfl) (fun _ _ _ h => h) (Or.inl ⟨by kernel_rfl, ?hy⟩) trivial ?_
     case hy => (intro w9 _; go_simp)
     simp only [Act.put]
     refine wpAnyH_take (i := 29) (v := .bool true) rfl (by kernel_rfl) (by kernel_rfl) (by kernel_rfl) (fun _ _ _ h => h) (Or.inl ⟨by kernel_rfl, ?hy⟩) trivial ?_
     case hy => (intro w9 _; go_simp)
     simp only [Act.put]
     refine wpAnyH_take (i := 30) (v := .bool true) rfl (by kernel_rfl) (by kernel_rfl) (by kernel_rfl) (fun _ _ _ h => h) (Or.inl ⟨by kernel_rfl, ?hy⟩) trivial ?_
     case hy => (intro w9 _; go_simp)
     simp only [Act.put]
     refine wpAnyH_ready (rs := [31]) (by kernel_rfl) (by simp) ?_
     refine AllReadyH.cons (o := _) rfl (fun K hK => ?_) AllReadyH.nil
     rw [if_pos (by kernel_rfl)]
     go_simp
     refine (CA.out _ HB8.out).mono ?_
     rintro e31 w31 ⟨rfl, b31⟩
     have HB31 := Lib.hid (below_next HB8.out b31)
     try go_wp2_with fail
     refine hK.out _ _ trivial (fun _ => ?_)
     clear hK K
     refine wpAnyH_take (i := 32) (v := .bool true) rfl (by kernel_rfl) (by kernel_rfl) (by kernel_rfl) (fun _ _ _ h => h) (Or.inl ⟨by kernel_rfl, ?hy⟩) trivial ?_
     case hy => (intro w9 _; go_simp)
     simp only [Act.put, List.setIfInBounds_toArray, List.set_cons_zero, List.set_cons_succ, List.getElem_toArray, List.getElem_cons_succ, List.getElem_cons_zero]
     refine wpAnyH_take (i := 33) (v := .bool true) rfl (by kernel_rfl) (by kernel_rfl) (by kernel_rfl) (fun _ _ _ h => h) (Or.inl ⟨by kernel_rfl, ?hy⟩) trivial ?_
     case hy => (intro w9 _; go_simp)
     simp only [Act.put, List.setIfInBounds_toArray, List.set_cons_zero, List.set_cons_succ, List.getElem_toArray, List.getElem_cons_succ, List.getElem_cons_zero]
     refine wpAnyH_done (by kernel_rfl) ?_ _
     go_wp2_with fail
     go_ret
     exact ⟨rfl, HB31.out⟩
    ·have hng : decide ((j : Int) < 0) = false := decide_eq_false (by omega)
     have hlt : decide ((j : Int) < 16) = true := decide_eq_true (by omega)
     have ebx : ((j : Int) == j) = true := by simp
     have HJ : Hid (j < 16) := Lib.hid hj
     have hjI : (j : Int) < 16 := by omega
     simp only [hx] at CB CRB
     simp only [<- hbx] at CRL
     have CX2 : Hid (∀ W, Below w.heap.size w W -> Calls Tryz.prog 22 #[] W fun e W' => ∃ (b off cap : Nat), e = .returned (.slice (some ⟨b, off, none⟩) 16 cap) /\ 16 <= cap /\ b < W'.heap.size /\ W'.cell? ⟨b, off + j, none⟩ = some (.string (Rl.bx j)) /\ Below W.heap.size W W') := Lib.hid fun W hb => (CX.out W hb).mono fun e w9 hh => by
      obtain ⟨A9, cap9, rfl, hc9, C9, b9⟩ := hh
      obtain ⟨b, off, rfl, hb9, hp9⟩ := C9 (by rw [hbl.out]; decide)
      obtain ⟨csY, _, rfl, h3Y⟩ := hp9 j (by rw [hbl.out]; exact hj)
      have cY0 := h3Y 0 _ rfl
      rw [Nat.mul_one, Nat.add_zero, boxes_at] at cY0
      exact ⟨b, off, cap9, by rw [hbl.out], by rw [<- hbl.out]; exact hc9, hb9, cY0, b9⟩
     have ess9 : ((Rl.bx j).toList == (Rl.bx j).toList) = true := by simp
     clear CX hx hbx
     generalize Rl.bx j = bj at *
     clear hT hB h hf
     go_enter Tryz.func5, Tryz.ntmps5
     go_wp2_with (first | (go_at_call 17; ((with_reducible refine (CF.out).mono ?_); rintro e w0 ⟨rfl, b0⟩; have HB0 := Lib.hid b0; clear b0)) | (go_at_call 18; ((with_reducible refine (CB.out _ HB0.out).mono ?_); rintro e w1 ⟨rfl, b1⟩; have HB1 := Lib.hid (below_next HB0.out b1); clear b1)))
     have HB1b := Lib.hid (below_next HB1.out (Below.refl w1.heap.size w1).drew)
     have ess : (so == so) = true := by cases so <;> rfl
     refine wp_region_held_drew (S := fun _ => True) rfl trivial (fun _ => ?_)
     simp only [List.size_toArray, List.length_cons, List.length_nil]
     refine wpAnyH_take (i := 0) (v := .slice A us.length cap) rfl (by kernel_rfl) (by kernel_rfl) (by kernel_rfl) (fun _ _ _ h => h) (Or.inl ⟨by kernel_rfl, ?hy⟩) trivial ?_
     case hy => (intro w9 _; go_simp)
     simp only [Act.put, List.setIfInBounds_toArray]
     refine wpAnyH_take (i := 2) (v := .slice A us.length cap) rfl (by kernel_rfl) (by kernel_rfl) (by kernel_rfl) (fun _ _ _ h => h) (Or.inl ⟨by kernel_rfl, ?hy⟩) trivial ?_
     case hy => (intro w9 _; go_simp)
     simp only [Act.put]
     refine wpAnyH_ready (rs := [1]) (by kernel_rfl) (by simp) ?_
     refine AllReadyH.cons (o := _) rfl (fun K hK => ?_) AllReadyH.nil
     rw [if_pos (by kernel_rfl)]
     go_simp
     refine (CS.out _ HB1b.out).mono ?_
     rintro e1 w1 ⟨rfl, b1⟩
     have HB1 := Lib.hid (below_next HB1b.out b1)
     try go_wp2_with fail
     refine hK.out _ _ trivial (fun _ => ?_)
     clear hK K
     refine wpAnyH_ready (rs := [3]) (by kernel_rfl) (by simp) ?_
     refine AllReadyH.cons (o := _) rfl (fun K hK => ?_) AllReadyH.nil
     rw [if_pos (by kernel_rfl)]
     go_simp
     refine (CRS.out _ HB1.out).mono ?_
     rintro e3 w3 ⟨rfl, b3⟩
     have HB3 := Lib.hid (below_next HB1.out b3)
     try go_wp2_with fail
     refine hK.out _ _ trivial (fun _ => ?_)
     clear hK K
     refine wpAnyH_take (i := 4) (v := .bool true) rfl (by kernel_rfl) (by kernel_rfl) (by kernel_rfl) (fun _ _ _ h => h) (Or.inl ⟨by kernel_rfl, ?hy⟩) trivial ?_
     case hy => (intro w9 _; go_simp)
     simp only [Act.put, List.setIfInBounds_toArray]
     refine wpAnyH_take (i := 5) (v := .bool true) rfl (by kernel_rfl) (by kernel_rfl) (by kernel_rfl) (fun _ _ _ h => h) (Or.inl ⟨by kernel_rfl, ?hy⟩) trivial ?_
     case hy => (intro w9 _; go_simp)
     simp only [Act.put]
     refine wpAnyH_take (i := 6) (v := .int .i64 (j : Int)) rfl (by kernel_rfl) (by kernel_rfl) (by kernel_rfl) (fun _ _ _ h => h) (Or.inl ⟨by kernel_rfl, ?hy⟩) trivial ?_
     case hy => (intro w9 _; go_simp)
     simp only [Act.put]
     refine wpAnyH_take (i := 7) (v := .string s) rfl (by kernel_rfl) (by kernel_rfl) (by kernel_rfl) (fun _ _ _ h => h) (Or.inl ⟨by kernel_rfl, ?hy⟩) trivial ?_
     case hy => (intro w9 _; go_simp)
     simp only [Act.put]
     refine wpAnyH_ready (rs := [8]) (by kernel_rfl) (by simp) ?_
     refine AllReadyH.cons (o := _) rfl (fun K hK => ?_) AllReadyH.nil
     rw [if_pos (by kernel_rfl)]
     go_simp
     refine (CRB.out _).mono ?_
     rintro e8 w8 ⟨rfl, b8⟩
     have HB8 := Lib.hid (below_next HB3.out b8)
     try go_wp2_with fail
     refine hK.out _ _ trivial (fun _ => ?_)
     clear hK K
     refine wpAnyH_take (i := 9) (v := .bool true) rfl (by kernel_rfl) (by kernel_rfl) (by kernel_rfl) (fun _ _ _ h => h) (Or.inl ⟨by kernel_rfl, ?hy⟩) trivial ?_
     case hy => (intro w9 _; go_simp)
     simp only [Act.put, List.setIfInBounds_toArray]
     refine wpAnyH_take (i := 10) (v := .bool true) rfl (by kernel_rfl) (by kernel_rfl) (by kernel_rfl) (fun _ _ _ h => h) (Or.inl ⟨by kernel_rfl, ?hy⟩) trivial ?_
     case hy => (intro w9 _; go_simp)
     simp only [Act.put]
     refine wpAnyH_take (i := 11) (v := .bool true) rfl (by kernel_rfl) (by kernel_rfl) (by kernel_rfl) (fun _ _ _ h => h) (Or.inl ⟨by kernel_rfl, ?hy⟩) trivial ?_
     case hy => (intro w9 _; go_simp)
     simp only [Act.put]
     refine wpAnyH_take (i := 12) (v := .int .i64 (j : Int)) rfl (by kernel_rfl) (by kernel_rfl) (by kernel_rfl) (fun _ _ _ h => h) (Or.inl ⟨by kernel_rfl, ?hy⟩) trivial ?_
     case hy => (intro w9 _; go_simp)
     simp only [Act.put]
     refine wpAnyH_take (i := 13) (v := .bool false) rfl (by kernel_rfl) (by kernel_rfl) (by kernel_rfl) (fun _ _ _ h => h) (Or.inl ⟨by kernel_rfl, ?hy⟩) trivial ?_
     case hy => (intro w9 _; go_simp)
     simp only [Act.put]
     refine wpAnyH_take (i := 14) (v := .bool false) rfl (by kernel_rfl) (by kernel_rfl) (by kernel_rfl) (fun _ _ _ h => h) (Or.inl ⟨by kernel_rfl, ?hy⟩) trivial ?_
     case hy => (intro w9 _; go_simp)
     simp only [Act.put]
     refine wpAnyH_take (i := 15) (v := .int .i64 (j : Int)) rfl (by kernel_rfl) (by kernel_rfl) (by kernel_rfl) (fun _ _ _ h => h) (Or.inl ⟨by kernel_rfl, ?hy⟩) trivial ?_
     case hy => (intro w9 _; go_simp)
     simp only [Act.put]
     refine wpAnyH_ready (rs := [16]) (by kernel_rfl) (by simp) ?_
     refine AllReadyH.cons (o := _) rfl (fun K hK => ?_) AllReadyH.nil
     rw [if_pos (by kernel_rfl)]
     go_simp
     refine (CX2.out _ HB8.out).mono ?_
     rintro e16 w16 ⟨bX, offX, cX, rfl, _, _, _, b16⟩
     have HB16 := Lib.hid (below_next HB8.out b16)
     try go_wp2_with fail
     refine hK.out _ _ trivial (fun _ => ?_)
     clear hK K
     refine wpAnyH_take (i := 17) (v := .int .i64 16) rfl (by kernel_rfl) (by kernel_rfl) (by kernel_rfl) (fun _ _ _ h => h) (Or.inl ⟨by kernel_rfl, ?hy⟩) trivial ?_
     case hy => (intro w9 _; go_simp)
     simp only [Act.put, List.setIfInBounds_toArray]
     refine wpAnyH_take (i := 18) (v := .bool true) rfl (by kernel_rfl) (by kernel_rfl) (by kernel_rfl) (fun _ _ _ h => h) (Or.inl ⟨by kernel_rfl, ?hy⟩) trivial ?_
     case hy => (intro w9 _; go_simp)
     simp only [Act.put]
     refine wpAnyH_take (i := 19) (v := .bool true) rfl (by kernel_rfl) (by kernel_rfl) (by kernel_rfl) (fun _ _ _ h => h) (Or.inl ⟨by kernel_rfl, ?hy⟩) trivial ?_
     case hy => (intro w9 _; go_simp)
     simp only [Act.put]
     refine wpAnyH_take (i := 21) (v := .int .i64 (j : Int)) rfl (by kernel_rfl) (by kernel_rfl) (by kernel_rfl) (fun _ _ _ h => h) (Or.inl ⟨by kernel_rfl, ?hy⟩) trivial ?_
     case hy => (intro w9 _; go_simp)
     simp only [Act.put]
     refine wpAnyH_take (i := 24) (v := .string s) rfl (by kernel_rfl) (by kernel_rfl) (by kernel_rfl) (fun _ _ _ h => h) (Or.inl ⟨by kernel_rfl, ?hy⟩) trivial ?_
     case hy => (intro w9 _; go_simp)
     simp only [Act.put]
     refine wpAnyH_ready (rs := [20]) (by kernel_rfl) (by simp) ?_
     refine AllReadyH.cons (o := _) rfl (fun K hK => ?_) AllReadyH.nil
     rw [if_pos (by kernel_rfl)]
     go_simp
     refine (CX2.out _ HB16.out).mono ?_
     rintro e20 w20 ⟨bY, offY, cY, rfl, hcY, hbY, cY0, b20⟩
     have HB20 := Lib.hid (below_next HB16.out b20)
     try go_wp2_with fail
     refine hK.out _ _ trivial (fun _ => ?_)
     clear hK K
     refine wpAnyH_take (i := 22) (v := .pointer (some ⟨bY, offY + j, none⟩)) rfl (by kernel_rfl) (by kernel_rfl) (by kernel_rfl) (fun _ _ _ h => h) (Or.inl ⟨by kernel_rfl, ?hy⟩) trivial ?_
     case hy => (intro w9 _; go_simp)
     simp only [Act.put, List.setIfInBounds_toArray]
     refine wpAnyH_ready (rs := [23, 25]) (by kernel_rfl) (by simp) ?_
     refine AllReadyH.cons (o := _) rfl (fun K hK => ?_) (AllReadyH.cons (o := _) rfl (fun K hK => ?_) AllReadyH.nil)
     ·rw [if_pos (by kernel_rfl)]
      go_simp
      try go_wp2_with fail
      refine hK.out _ _ trivial (fun _ => ?_)
      clear hK K
      refine wpAnyH_ready (rs := [25]) (by kernel_rfl) (by simp) ?_
      refine AllReadyH.cons (o := _) rfl (fun K hK => ?_) AllReadyH.nil
      rw [if_pos (by kernel_rfl)]
      go_simp
      refine (CRL.out _).mono ?_
      rintro e25 w25 ⟨rfl, b25⟩
      have HB25 := Lib.hid (below_next HB20.out b25)
      have cY1 := (b25.cell (p := ⟨bY, offY + j, none⟩) hbY).trans cY0
      try go_wp2_with fail
      refine hK.out _ _ trivial (fun _ => ?_)
      clear hK K
      refine wpAnyH_take (i := 26) (v := .bool true) rfl (by kernel_rfl) (by kernel_rfl) (by kernel_rfl) (fun _ _ _ h => h) (Or.inl ⟨by kernel_rfl, ?hy⟩) trivial ?_
      case hy => (intro w9 _; go_simp)
      simp only [Act.put, List.setIfInBounds_toArray]
      refine wpAnyH_take (i := 27) (v := .bool true) rfl (by kernel_rfl) (by kernel_rfl) (by kernel_rfl) (fun _ _ _ h => h) (Or.inl ⟨by kernel_rfl, ?hy⟩) trivial ?_
      case hy => (intro w9 _; go_simp)
      simp only [Act.put]
      refine wpAnyH_take (i := 28) (v := .bool true) rfl (by kernel_rfl) (by kernel_rfl) (by kernel_rfl) (fun _ _ _ h => h) (Or.inl ⟨by kernel_rfl, ?hy⟩) trivial ?_
      case hy => (intro w9 _; go_simp)
      simp only [Act.put]
      refine wpAnyH_take (i := 29) (v := .bool true) rfl (by kernel_rfl) (by kernel_rfl) (by kernel_rfl) (fun _ _ _ h => h) (Or.inl ⟨by kernel_rfl, ?hy⟩) trivial ?_
      case hy => (intro w9 _; go_simp)
      simp only [Act.put]
      refine wpAnyH_take (i := 30) (v := .bool true) rfl (by kernel_rfl) (by kernel_rfl) (by kernel_rfl) (fun _ _ _ h => h) (Or.inl ⟨by kernel_rfl, ?hy⟩) trivial ?_
      case hy => (intro w9 _; go_simp)
      simp only [Act.put]
      refine wpAnyH_ready (rs := [31]) (by kernel_rfl) (by simp) ?_
      refine AllReadyH.cons (o := _) rfl (fun K hK => ?_) AllReadyH.nil
      rw [if_pos (by kernel_rfl)]
      go_simp
      refine (CA.out _ HB25.out).mono ?_
      rintro e31 w31 ⟨rfl, b31⟩
      have HB31 := Lib.hid (below_next HB25.out b31)
      try go_wp2_with fail
      refine hK.out _ _ trivial (fun _ => ?_)
      clear hK K
      refine wpAnyH_take (i := 32) (v := .bool true) rfl (by kernel_rfl) (by kernel_rfl) (by kernel_rfl) (fun _ _ _ h => h) (Or.inl ⟨by kernel_rfl, ?hy⟩) trivial ?_
      case hy => (intro w9 _; go_simp)
      simp only [Act.put, List.setIfInBounds_toArray, List.set_cons_zero, List.set_cons_succ, List.getElem_toArray, List.getElem_cons_succ, List.getElem_cons_zero]
      refine wpAnyH_take (i := 33) (v := .bool true) rfl (by kernel_rfl) (by kernel_rfl) (by kernel_rfl) (fun _ _ _ h => h) (Or.inl ⟨by kernel_rfl, ?hy⟩) trivial ?_
      case hy => (intro w9 _; go_simp)
      simp only [Act.put, List.setIfInBounds_toArray, List.set_cons_zero, List.set_cons_succ, List.getElem_toArray, List.getElem_cons_succ, List.getElem_cons_zero]
      refine wpAnyH_done (by kernel_rfl) ?_ _
      go_wp2_with fail
      go_ret
      exact ⟨rfl, HB31.out⟩
     ·rw [if_pos (by kernel_rfl)]
      go_simp
      refine (CRL.out _).mono ?_
      rintro e25 w25 ⟨rfl, b25⟩
      have HB25 := Lib.hid (below_next HB20.out b25)
      have cY1 := (b25.cell (p := ⟨bY, offY + j, none⟩) hbY).trans cY0
      try go_wp2_with fail
      refine hK.out _ _ trivial (fun _ => ?_)
      clear hK K
      refine wpAnyH_ready (rs := [23]) (by kernel_rfl) (by simp) ?_
      refine AllReadyH.cons (o := _) rfl (fun K hK => ?_) AllReadyH.nil
      rw [if_pos (by kernel_rfl)]
      go_simp
      try go_wp2_with fail
      refine hK.out _ _ trivial (fun _ => ?_)
      clear hK K
      refine wpAnyH_take (i := 26) (v := .bool true) rfl (by kernel_rfl) (by kernel_rfl) (by kernel_rfl) (fun _ _ _ h => h) (Or.inl ⟨by kernel_rfl, ?hy⟩) trivial ?_
      case hy => (intro w9 _; go_simp)
      simp only [Act.put, List.setIfInBounds_toArray]
      refine wpAnyH_take (i := 27) (v := .bool true) rfl (by kernel_rfl) (by kernel_rfl) (by kernel_rfl) (fun _ _ _ h => h) (Or.inl ⟨by kernel_rfl, ?hy⟩) trivial ?_
      case hy => (intro w9 _; go_simp)
      simp only [Act.put]
      refine wpAnyH_take (i := 28) (v := .bool true) rfl (by kernel_rfl) (by kernel_rfl) (by kernel_rfl) (fun _ _ _ h => h) (Or.inl ⟨by kernel_rfl, ?hy⟩) trivial ?_
      case hy => (intro w9 _; go_simp)
      simp only [Act.put]
      refine wpAnyH_take (i := 29) (v := .bool true) rfl (by kernel_rfl) (by kernel_rfl) (by kernel_rfl) (fun _ _ _ h => h) (Or.inl ⟨by kernel_rfl, ?hy⟩) trivial ?_
      case hy => (intro w9 _; go_simp)
      simp only [Act.put]
      refine wpAnyH_take (i := 30) (v := .bool true) rfl (by kernel_rfl) (by kernel_rfl) (by kernel_rfl) (fun _ _ _ h => h) (Or.inl ⟨by kernel_rfl, ?hy⟩) trivial ?_
      case hy => (intro w9 _; go_simp)
      simp only [Act.put]
      refine wpAnyH_ready (rs := [31]) (by kernel_rfl) (by simp) ?_
      refine AllReadyH.cons (o := _) rfl (fun K hK => ?_) AllReadyH.nil
      rw [if_pos (by kernel_rfl)]
      go_simp
      refine (CA.out _ HB25.out).mono ?_
      rintro e31 w31 ⟨rfl, b31⟩
      have HB31 := Lib.hid (below_next HB25.out b31)
      try go_wp2_with fail
      refine hK.out _ _ trivial (fun _ => ?_)
      clear hK K
      refine wpAnyH_take (i := 32) (v := .bool true) rfl (by kernel_rfl) (by kernel_rfl) (by kernel_rfl) (fun _ _ _ h => h) (Or.inl ⟨by kernel_rfl, ?hy⟩) trivial ?_
      case hy => (intro w9 _; go_simp)
      simp only [Act.put, List.setIfInBounds_toArray, List.set_cons_zero, List.set_cons_succ, List.getElem_toArray, List.getElem_cons_succ, List.getElem_cons_zero]
      refine wpAnyH_take (i := 33) (v := .bool true) rfl (by kernel_rfl) (by kernel_rfl) (by kernel_rfl) (fun _ _ _ h => h) (Or.inl ⟨by kernel_rfl, ?hy⟩) trivial ?_
      case hy => (intro w9 _; go_simp)
      simp only [Act.put, List.setIfInBounds_toArray, List.set_cons_zero, List.set_cons_succ, List.getElem_toArray, List.getElem_cons_succ, List.getElem_cons_zero]
      refine wpAnyH_done (by kernel_rfl) ?_ _
      go_wp2_with fail
      go_ret
      exact ⟨rfl, HB31.out⟩
  ·have CF : Hid (Calls Tryz.prog 17 #[.slice A us.length cap] w (Bo false w)) := Lib.hid ((few_any us hn false (by simp [hf]) A cap w h).mono fun e w' hh => ⟨hh.1, hh.2 ▸ Below.refl _ _⟩)
   clear hT hB h
   go_enter Tryz.func5, Tryz.ntmps5
   go_wp2_with (first | (go_at_call 17; ((with_reducible refine (CF.out).mono ?_); rintro e w0 ⟨rfl, b0⟩; have HB0 := Lib.hid b0; clear b0)) | (go_at_call 9; ((with_reducible refine (CA.out _ HB0.out).mono ?_); rintro e w1 ⟨rfl, b1⟩; have HB1 := Lib.hid (below_next HB0.out b1); clear b1)))
   go_ret
   exact ⟨rfl, HB1.out⟩
end Go.Proofs.YtllmjggejbdpcaaGreatDoor
