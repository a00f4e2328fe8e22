/-
  The walk of the reference's Parse.
-/
import Derived.Test.YtkcabpjfgbghjaaGreatDoorGam
import Derived.Test.YtkcabpjfgbghjaaGreatDoorGal
import Derived.Test.YtkcabpjfgbghjaaGreatDoorGao
import Derived.Test.YtkcabpjfgbghjaaGreatDoorGac
import Derived.Laws.BytesArg
import Derived.Laws.IdiomStrings
import Derived.Test.YtkcabpjfgbghjaaGreatDoorGaa
set_option maxHeartbeats 16000000
set_option maxRecDepth 100000
namespace Go.Proofs.YtkcabpjfgbghjaaGreatDoor
open Go.RowKit
theorem Rl.page_test (t : ByteArray) : (t.toList == [112, 97, 103, 101]) = decide (t = Rl.pageS) := by
 rw [<- str_same, show Rl.pageS.toList = [112, 97, 103, 101] from by unfold Rl.pageS; rw [Lib.toList_data]]
def PrsAt (sd : List Tk.Tok -> Bool) (ts : List Tk.Tok) (w : World) (v8 v9 : Value) (wr : World) : Prop :=
 ∃ (k : Nat) (rs : List Rl.Rule), k <= ts.length + 1 /\ rs.length <= k /\ v9 = .int .i64 k /\ Hid (Rl.prs sd ts 0 = rs ++ Rl.prs sd ts k) /\ Hid (Rl.Gr 47 4 (Rl.RulQ true) w v8 rs wr)
def ParR (sd : List Tk.Tok -> Bool) (ts : List Tk.Tok) (l : List Rl.Rule) (er : Int) : Prop :=
 (Ns.deep ts /\ l = [] /\ er = 3) ∨ (¬ Ns.deep ts /\ 1024 < (Rl.parse sd ts).length /\ l = [] /\ er = 2) ∨ (¬ Ns.deep ts /\ (Rl.parse sd ts).length <= 1024 /\ l = Rl.parse sd ts /\ er = 0)
theorem rparse_any (sd : List Tk.Tok -> Bool) (hsd : SdC sd) (ts : List Tk.Tok) (hF : Pr.FairB ts) (l : List Rl.Rule) (er : Int) (hl : ParR sd ts l er) (A0 : Option Addr) (n0 cap0 : Nat) (w : World)
 (hS : Calls Tryz.prog 31 #[.slice A0 n0 cap0] w (Told3 ts w)) : Calls Tryz.prog 12 #[.slice A0 n0 cap0] w (ToldR l er w) := by
 have hm := hF.1
 have CS := Lib.hid hS
 have HL := Lib.hid hl
 have HEL := Lib.hid (Ns.ends_len ts)
 have CE : Hid (∀ (A : Option Addr) (c : Nat) (W : World), Ts W W.heap.size A ts -> Calls Tryz.prog 32 #[.slice A ts.length c] W (EndsIs ts W)) := Lib.hid fun A c W h => rends_any ts (by omega) A c W h
 clear hS hl
 by_cases hd : Ns.deep ts
 ·have HV : Hid (l = [] /\ er = 3) := Lib.hid (by rcases HL.out with h | h | h; exact h.2; exact absurd hd h.1; exact absurd hd h.1)
  have CE2 : Hid (∀ (A : Option Addr) (c : Nat) (W : World), Ts W W.heap.size A ts -> Calls Tryz.prog 32 #[.slice A ts.length c] W (EndsBad W)) := Lib.hid fun A c W h => (CE.out A c W h).mono fun e w' h => h.2 hd
  clear CE hF hsd HL
  go_enter Tryz.func12, Tryz.ntmps12
  go_wp2_with (first | (go_at_call 31; ((with_reducible refine (CS.out).mono ?_); rintro e w1 ⟨A1, c1, rfl, hc1, T1, b1⟩; have HB1 := Lib.hid b1; have HT1 := Lib.hid T1; clear b1 T1)) | (go_at_call 32; ((with_reducible refine (CE2.out _ _ _ HT1.out).mono ?_); rintro e w2 ⟨rfl, b2⟩; have HB2 := Lib.hid (below_next HB1.out b2); clear b2)))
  exact bodyPost_ret (v := .tuple #[.slice none 0 0, .int .i64 3]) (by simp [results, Tryz.results12, go_sem]) rfl (by rw [HV.out.1, HV.out.2]; exact told_none 3 HB2.out)
 ·have HV : Hid ((1024 < (Rl.prs sd ts 0).length /\ l = [] /\ er = 2) ∨ ((Rl.prs sd ts 0).length <= 1024 /\ l = Rl.prs sd ts 0 /\ er = 0)) := Lib.hid (by rcases HL.out with h | h | h; exact absurd h.1 hd; exact .inl h.2; exact .inr h.2)
  have CE2 : Hid (∀ (A : Option Addr) (c : Nat) (W : World), Ts W W.heap.size A ts -> Calls Tryz.prog 32 #[.slice A ts.length c] W (EndsRd ts W)) := Lib.hid fun A c W h => (CE.out A c W h).mono fun e w' h => ends_rd (h.1 hd)
  clear CE HL hd
  go_enter Tryz.func12, Tryz.ntmps12
  go_wp2_with (first | (go_at_call 31; ((with_reducible refine (CS.out).mono ?_); rintro e w1 ⟨A1, c1, rfl, hc1, T1, b1⟩; have HB1 := Lib.hid b1; have HT1 := Lib.hid T1; clear b1 T1)) | (go_at_call 32; ((with_reducible refine (CE2.out _ _ _ HT1.out).mono ?_); rintro e w2 ⟨C2, cc, rfl, hcc, B2, b2⟩; have HB2 := Lib.hid (below_next HB1.out b2); have H := Lib.hid (HT1.out.next b2); have H2 := Lib.hid B2; clear b2 B2)))
  clear CS CE2 HT1
  go_loopw [8, 9] (fun v8 v9 wr => PrsAt sd ts w2 v8 v9 wr) (fun _ v9 _ => ts.length - (RowKit.intOf v9).toNat)
  case atStart => exact ⟨0, [], Nat.zero_le _, Nat.zero_le _, rfl, Lib.hid rfl, Lib.hid (Rl.Gr.start (Below.refl _ _))⟩
  case round =>
   obtain ⟨k, rs, hk2, hr1, rfl, HP0, HG⟩ := hrel
   have HBR := Lib.hid HG.out.bel
   by_cases hlt : k < ts.length
   ·obtain ⟨b, off, rfl, hb, hp⟩ := H.out (by omega)
    have HP := Lib.hid hp
    have HBb := Lib.hid hb
    clear hp hb
    have HF1 := Lib.hid (HP.out k hlt).2.1
    have p0 := (HBR.out.cell (p := ⟨b, off + k * 3, none⟩) HBb.out).trans (HP.out k hlt).1
    by_cases h1 : (Tk.tk ts k).1 = 1
    ·have HN : Hid (Rl.prs sd ts 0 = rs ++ Rl.prs sd ts (k + 1)) := Lib.hid (by rw [HP0.out, Rl.prs_sp sd ts hlt h1])
     rw [h1] at p0
     clear h1 HP0
     go_wp2_with fail
     go_roundw
     case rel => exact ⟨k + 1, rs, by omega, by omega, by go_num, HN, HG⟩
     case measure => simp [RowKit.intOf]; omega
    ·have n1 : ((Tk.tk ts k).1 == 1) = false := beq_false_of_ne h1
     have hfb := Rl.endAt_bd ts hlt
     have HSZ := Lib.hid (hF.2 k hlt)
     have hs0 := Ns.sk_gt (Ns.ends ts) (Rl.endAt ts k)
     have hs1 : Ns.sk (Ns.ends ts) (Rl.endAt ts k) <= ts.length + 1 := by
      by_cases he : Rl.endAt ts k < ts.length
      ·have := Ns.sk_le (es := Ns.ends ts) (a := Rl.endAt ts k) (by rw [HEL.out]; exact he)
       rw [HEL.out] at this; omega
      ·unfold Ns.sk
       rw [Ns.skp_no (fun c => by have := c.2.1; rw [HEL.out] at this; omega)]; omega
     have hgl : (Ru.g (Ns.ends ts) (Rl.endAt ts k)).toNat <= ts.length := by
      by_cases he : Rl.endAt ts k < ts.length
      ·rcases Ns.ends_range (ts := ts) (k := Rl.endAt ts k) he with h | ⟨_, _, h⟩
       ·have h2 : Ru.g (Ns.ends ts) (Rl.endAt ts k) = -1 := h.2
        omega
       ·have h2 : Ru.g (Ns.ends ts) (Rl.endAt ts k) <= ts.length := h
        omega
      ·have h2 : Ru.g (Ns.ends ts) (Rl.endAt ts k) = 0 := by unfold Ru.g; rw [List.getD_eq_getElem?_getD, List.getElem?_eq_none (by rw [HEL.out]; omega)]; rfl
       omega
     have HF : Hid (¬ Rl.isRule sd ts k -> Rl.prs sd ts 0 = rs ++ Rl.prs sd ts (Ns.sk (Ns.ends ts) (Rl.endAt ts k))) := Lib.hid fun hr => by rw [HP0.out, Rl.prs_no sd ts hlt h1 hr]
     have HT0 := Lib.hid fun (hr : Rl.isRule sd ts k) => HP0.out.trans (congrArg (rs ++ ·) (Rl.prs_rule sd ts hlt h1 hr hgl))
     have CSk : Hid (∀ W, Below w2.heap.size w2 W -> Calls Tryz.prog 36 #[.slice C2 (Ns.ends ts).length cc, .int .i64 (Rl.endAt ts k : Nat)] W (fun e w' => e = .returned (.int .i64 (Ns.sk (Ns.ends ts) (Rl.endAt ts k) : Nat)) /\ W = w')) := Lib.hid fun W hb => by
      rw [Ns.sk_eq]; exact rskip_any (Ns.ends ts) (Ns.ends_fit (by omega)) C2 cc (Rl.endAt ts k : Nat) (by omega) W (H2.out.next hb)
     have CL : Hid (∀ W, Calls Tryz.prog 24 #[.string (Tk.tk ts k).2.1] W (Sg (Ru.lowS (Tk.tk ts k).2.1) W)) := Lib.hid fun W => rlower_any _ HSZ.out W
     clear HP0
     by_cases h4 : (Tk.tk ts k).1 = 4
     ·skip
      have hi : Rl.isAt ts k = true := decide_eq_true h4
      have he : Rl.endAt ts k = Rl.fo (Rl.stB true) ts (k + 1) ts.length := by unfold Rl.endAt; rw [hi]; rfl
      have HGE : Hid (Rl.endAt ts k < ts.length -> (Tk.tk ts (Rl.endAt ts k)).1 = 12 -> 0 <= Ru.g (Ns.ends ts) (Rl.endAt ts k)) := Lib.hid (by rw [he]; exact Rl.fo_end (Nat.le_refl _))
      have HR : Hid (Rl.isRule sd ts k ↔ (Rl.endAt ts k < ts.length /\ (Tk.tk ts (Rl.endAt ts k)).1 = 12 /\ Ru.lowS (Tk.tk ts k).2.1 = Rl.pageS /\ sd (Rl.trim (Rl.sub ts (k + 1) (Rl.endAt ts k))) = true)) := Lib.hid ⟨fun h => by
       have h9 := h.2.2.2
       rw [hi, if_pos rfl] at h9
       exact ⟨h.1, h.2.1, h.2.2.1 hi, h9⟩, fun h => by
       unfold Rl.isRule
       rw [hi, if_pos rfl]
       exact ⟨h.1, h.2.1, fun _ => h.2.2.1, h.2.2.2⟩⟩
      have HT : Hid (Rl.isRule sd ts k -> Rl.prs sd ts 0 = (rs ++ [((2 : Int), Rl.trim (Rl.sub ts (k + 1) (Rl.endAt ts k)), (Rl.blk sd ts true (Rl.endAt ts k + 1) (Ru.g (Ns.ends ts) (Rl.endAt ts k)).toNat).1, (Rl.blk sd ts true (Rl.endAt ts k + 1) (Ru.g (Ns.ends ts) (Rl.endAt ts k)).toNat).2)]) ++ Rl.prs sd ts (Ns.sk (Ns.ends ts) (Rl.endAt ts k))) := Lib.hid fun hr => by
       have h9 := HT0.out hr
       rw [hi, if_pos rfl, if_pos rfl] at h9
       rw [h9]; simp
      have CF : Hid (Calls Tryz.prog 33 #[.slice (some ⟨b, off, none⟩) ts.length c1, .slice C2 (Ns.ends ts).length cc, .int .i64 ((k : Int) + 1), .int .i64 ts.length, .bool true] wr (Nu ((Rl.endAt ts k : Nat) : Int) wr)) := Lib.hid (by
       have := rfirst_any ts (by omega) (some ⟨b, off, none⟩) C2 c1 cc (k + 1) ts.length (by omega) (Nat.le_refl _) true wr (H.out.next HBR.out) (H2.out.next HBR.out)
       rw [he]
       rwa [show ((k + 1 : Nat) : Int) = (k : Int) + 1 by omega] at this)
      have hfb2 : k + 1 <= Rl.endAt ts k := by rw [he]; exact (Rl.fo_bd _ ts (by omega)).1
      clear h1 he hgl HT0
      rw [h4] at p0
      clear h4
      generalize Rl.endAt ts k = e1 at *
      have CC : Hid (∀ W, Below w2.heap.size w2 W -> Calls Tryz.prog 34 #[.slice (some ⟨b, off, none⟩) ts.length c1, .int .i64 ((k : Int) + 1), .int .i64 e1] W (ToldT (Rl.trim (Rl.sub ts (k + 1) e1)) W)) := Lib.hid fun W hb => by
       have := rcut_any ts (by omega) (some ⟨b, off, none⟩) c1 hc1 (k + 1) e1 hfb2 hfb.2 W (H.out.next hb)
       rwa [show ((k + 1 : Nat) : Int) = (k : Int) + 1 by omega] at this
      generalize HN9 : Ns.sk (Ns.ends ts) e1 = n9 at *
      clear HN9
      by_cases k1 : e1 < ts.length
      ·have pe := (HP.out e1 k1).1
       by_cases k2 : (Tk.tk ts e1).1 = 12
       ·have k2e := k2
        rw [k2] at pe
        by_cases k3 : Ru.lowS (Tk.tk ts k).2.1 = Rl.pageS
        ·have d3 : ((Ru.lowS (Tk.tk ts k).2.1).toList == [112, 97, 103, 101]) = true := by rw [Rl.page_test]; exact decide_eq_true k3
         have hge := HGE.out k1 k2e
         have hec : (e1 : Int) < ((Ns.ends ts).length : Int) := by rw [HEL.out]; omega
         obtain ⟨bC, oC, rfl, hbC, hpC⟩ := H2.out (by rw [HEL.out]; omega)
         have HBC := Lib.hid hbC
         have pc := hpC e1 (by rw [HEL.out]; exact k1)
         have hgl2 : Ru.g (Ns.ends ts) e1 <= ts.length := by
          rcases Ns.ends_range (ts := ts) (k := e1) k1 with h | ⟨_, _, h⟩
          ·have h2 : Ru.g (Ns.ends ts) e1 = -1 := h.2
           omega
          ·exact h
         have CN : Hid (∀ W, Below w2.heap.size w2 W -> Calls Tryz.prog 35 #[.slice (some ⟨b, off, none⟩) ts.length c1, .slice (some ⟨bC, oC, none⟩) (Ns.ends ts).length cc, .int .i64 ((e1 : Int) + 1), .int .i64 (Ru.g (Ns.ends ts) e1), .bool true] W (ToldB (Rl.blk sd ts true (e1 + 1) (Ru.g (Ns.ends ts) e1).toNat) W)) := Lib.hid fun W hb => by
          have := rblock_any sd hsd ts hF (some ⟨b, off, none⟩) (some ⟨bC, oC, none⟩) c1 cc hc1 ((Ru.g (Ns.ends ts) e1).toNat - (e1 + 1)) true (e1 + 1) (Ru.g (Ns.ends ts) e1).toNat (Nat.le_refl _) (by omega) (by omega) W (H.out.next hb) (H2.out.next hb)
          rwa [show (((Ru.g (Ns.ends ts) e1).toNat : Nat) : Int) = Ru.g (Ns.ends ts) e1 by omega, show ((e1 + 1 : Nat) : Int) = (e1 : Int) + 1 by omega] at this
         have hvF : Pr.FairB (Rl.trim (Rl.sub ts (k + 1) e1)) := by
          have h1 := trim_len (Rl.sub ts (k + 1) e1)
          have h2 := Rl.sub_len (ts := ts) (a := (k + 1)) (b := e1) (by omega)
          refine ⟨by omega, fun j hj => ?_⟩
          rw [Tk.tk_eq hj]
          obtain ⟨j2, hj2, e2⟩ := List.mem_iff_getElem.1 (sub_mem (trim_mem (List.getElem_mem hj)))
          have := hF.2 j2 hj2
          rwa [Tk.tk_eq hj2, e2] at this
         have CSd : Hid (∀ (A : Option Addr) (c : Nat) (W : World), (Rl.trim (Rl.sub ts (k + 1) e1)).length <= c -> Ts W W.heap.size A (Rl.trim (Rl.sub ts (k + 1) e1)) -> Calls Tryz.prog 21 #[.slice A (Rl.trim (Rl.sub ts (k + 1) e1)).length c] W (Bo (sd (Rl.trim (Rl.sub ts (k + 1) e1))) W)) := Lib.hid fun A c W hc hT => hsd _ hvF A c W hc hT
         have HNF : Hid (sd (Rl.trim (Rl.sub ts (k + 1) e1)) = false -> Rl.prs sd ts 0 = rs ++ Rl.prs sd ts n9) := Lib.hid fun h => HF.out fun c => by have h9 := (HR.out.1 c).2.2.2; rw [h] at h9; cases h9
         have HNT := Lib.hid fun (h : sd (Rl.trim (Rl.sub ts (k + 1) e1)) = true) => HT.out (HR.out.2 ⟨k1, k2e, k3, h⟩)
         clear HF HT HR HGE hvF hpC hbC hgl2 hge k2 k2e hi k3
         generalize HRN : Rl.blk sd ts true (e1 + 1) (Ru.g (Ns.ends ts) e1).toNat = rn at *
         clear HRN
         generalize Ru.g (Ns.ends ts) e1 = ge at *
         generalize Rl.trim (Rl.sub ts (k + 1) e1) = pr at *
         generalize sd pr = so at *
         generalize Ru.lowS (Tk.tk ts k).2.1 = ls at *
         generalize (Tk.tk ts k).2.1 = s0 at *
         go_upto_region 19 with (first | (go_at_call 33; ((with_reducible refine (CF.out).mono ?_); rintro e w3 ⟨rfl, b3⟩; have HB3 := Lib.hid b3; have HBW3 := Lib.hid (below_next HBR.out b3); have q1 := (HBW3.out.cell (p := ⟨b, off + k * 3 + 1, none⟩) HBb.out).trans HF1.out; have q0 := (HBW3.out.cell (p := ⟨b, off + e1 * 3, none⟩) HBb.out).trans pe; clear b3)) | (go_at_call 24; ((with_reducible refine (CL.out _).mono ?_); rintro e w4 ⟨rfl, b4⟩; have HB4 := Lib.hid (below_next HB3.out b4); have HBW4 := Lib.hid (below_next HBR.out HB4.out); clear b4)) | (go_at_call 34; ((with_reducible refine (CC.out _ HBW4.out).mono ?_); rintro e w5 ⟨A5, c5, rfl, hc5, T5, b5⟩; have HB5 := Lib.hid (below_next HB4.out b5); have HT5 := Lib.hid T5; clear b5 T5)))
         have k6 := heap_alloc_new w5 (.cells #[.int .i64 1, .slice A5 pr.length c5, .slice none 0 0, .slice none 0 0] 47)
         have b6 := (Below.refl w5.heap.size w5).alloc (Nat.le_refl _) (.cells #[.int .i64 1, .slice A5 pr.length c5, .slice none 0 0, .slice none 0 0] 47)
         generalize w5.alloc (.cells #[.int .i64 1, .slice A5 pr.length c5, .slice none 0 0, .slice none 0 0] 47) = w6 at k6 b6 ⊢
         obtain ⟨⟨x0, x1, x2, x3⟩, x4, x5, x6, x7⟩ := Rl.four_cells k6
         go_upto_region 21 with fail
         replace k6 := Rl.set_kind k6 (.int .i64 2)
         replace b6 := b6.setCell (Nat.le_refl _) (p := ⟨w5.heap.size, 0, none⟩) (.int .i64 2)
         generalize w6.setCell ⟨w5.heap.size, 0, none⟩ (.int .i64 2) = w6 at k6 b6 ⊢
         clear x0 x1 x2 x3 x4 x5 x6 x7
         have K6 := Lib.hid k6
         have B6 := Lib.hid b6
         clear k6 b6
         have HBW6 := Lib.hid (below_next HBR.out (below_next HB5.out B6.out))
         have q6 := (HBW6.out.cell (p := ⟨bC, oC + e1, none⟩) HBC.out).trans pc
         go_upto_region 24 with (go_at_call 35; ((with_reducible refine (CN.out _ HBW6.out).mono ?_); rintro e w7 ⟨A7, c7, A8, c8, rfl, hc7, hc8, T7, Y7, _, T8, Y8, b7⟩; have B7 := Lib.hid (below_next B6.out b7); have K7 := Lib.hid (below_block b7 K6.out); obtain ⟨⟨x0, x1, x2, x3⟩, x4, x5, x6, x7⟩ := Rl.four_cells K7.out; have HS2 : Hid (Rl.SlQ (some 42) 3 (Rl.DecQ true) w7 rn.1 [.slice A7 rn.1.length c7]) := Lib.hid ⟨A7, c7, rfl, hc7, T7, Y7⟩; have HS3 : Hid (Rl.SlQ (some 49) 2 (Rl.MarQ true) w7 rn.2 [.slice A8 rn.2.length c8]) := Lib.hid ⟨A8, c8, rfl, hc8, T8, Y8⟩; clear b7 T7 Y7 T8 Y8))
         have k9 := Rl.set_two K7.out (.slice A7 rn.1.length c7) (.slice A8 rn.2.length c8)
         have o9 := Rl.only_two K7.out (.slice A7 rn.1.length c7) (.slice A8 rn.2.length c8)
         have b9 := (B7.out.setCell (Nat.le_refl _) (p := ⟨w5.heap.size, 2, none⟩) (.slice A7 rn.1.length c7)).setCell (Nat.le_refl _) (p := ⟨w5.heap.size, 3, none⟩) (.slice A8 rn.2.length c8)
         generalize (w7.setCell ⟨w5.heap.size, 2, none⟩ (.slice A7 rn.1.length c7)).setCell ⟨w5.heap.size, 3, none⟩ (.slice A8 rn.2.length c8) = w10 at k9 o9 b9 ⊢
         have T10 := Lib.hid (HT5.out.next b9)
         have T101 := Lib.hid T10.out.1
         have R2 := Lib.hid (Rl.kT_sl (E := 47) (E' := 42) (sz := 3) (by decide) (Rl.kT_dec2 (by decide)) _ _ _ _ _ HS2.out o9)
         have R3 := Lib.hid (Rl.kT_sl (E := 47) (E' := 49) (sz := 2) (by decide) (Rl.kT_mar2 (by decide) (by decide)) _ _ _ _ _ HS3.out o9)
         have R1 : Hid (Rl.SlQ (some 61) 3 Rl.TokQ w10 pr [.slice A5 pr.length c5]) := Lib.hid ⟨A5, c5, rfl, hc5, Rl.cells_ts T101.out, T10.out.2⟩
         have HB10 := Lib.hid (below_next HB5.out b9)
         have K10 := Lib.hid k9
         clear k9 o9 b9 x0 x1 x2 x3 x4 x5 x6 x7
         obtain ⟨⟨x0, x1, x2, x3⟩, _⟩ := Rl.four_cells K10.out
         cases so
         ·have HN := Lib.hid (HNF.out rfl)
          clear HNF HNT
          go_wp2_with (first | (go_at_call 21; ((with_reducible refine (CSd.out _ _ _ hc5 T101.out).mono ?_); rintro e w11 ⟨rfl, b11⟩; have HB11 := Lib.hid (below_next HB10.out b11); have HBW11 := Lib.hid (below_next HBR.out HB11.out); obtain ⟨⟨y0, y1, y2, y3⟩, _⟩ := Rl.four_cells (below_block b11 K10.out); have U1 := Lib.hid (Rl.keeps_sl Rl.keeps_tok _ _ _ _ R1.out b11); have U2 := Lib.hid (Rl.keeps_sl (Rl.keeps_dec true) _ _ _ _ R2.out b11); have U3 := Lib.hid (Rl.keeps_sl (Rl.keeps_mar true) _ _ _ _ R3.out b11); have HG11 := Lib.hid (HG.out.next (Rl.keeps_rul true) HB11.out); clear b11)) | (go_at_call 36; ((with_reducible refine (CSk.out _ HBW11.out).mono ?_); rintro e w9 ⟨rfl, rfl⟩)))
          go_roundw
          case rel => exact ⟨n9, rs, by omega, by omega, by go_num, HN, HG11⟩
          case measure => simp [RowKit.intOf]; omega
         ·have HN := Lib.hid (HNT.out rfl)
          have hrl : (rs ++ [((2 : Int), pr, rn.1, rn.2)]).length <= n9 := by rw [List.length_append]; simp only [List.length_cons, List.length_nil]; omega
          clear HNF HNT
          go_wp2_with (first | (go_at_call 21; ((with_reducible refine (CSd.out _ _ _ hc5 T101.out).mono ?_); rintro e w11 ⟨rfl, b11⟩; have HB11 := Lib.hid (below_next HB10.out b11); have HBW11 := Lib.hid (below_next HBR.out HB11.out); obtain ⟨⟨y0, y1, y2, y3⟩, _⟩ := Rl.four_cells (below_block b11 K10.out); have U1 := Lib.hid (Rl.keeps_sl Rl.keeps_tok _ _ _ _ R1.out b11); have U2 := Lib.hid (Rl.keeps_sl (Rl.keeps_dec true) _ _ _ _ R2.out b11); have U3 := Lib.hid (Rl.keeps_sl (Rl.keeps_mar true) _ _ _ _ R3.out b11); have HG11 := Lib.hid (HG.out.next (Rl.keeps_rul true) HB11.out); clear b11)) | (at_builtin; refine app_rul rfl _ _ rfl rfl HG11.out ((2 : Int), pr, rn.1, rn.2) _ _ _ U1.out U2.out U3.out _ _ rfl (by omega) ?_; intro v' w12 G1; have HG12 := Lib.hid G1; have HBW12 := Lib.hid G1.bel; clear G1) | (go_at_call 36; ((with_reducible refine (CSk.out _ HBW12.out).mono ?_); rintro e w9 ⟨rfl, rfl⟩)))
          go_roundw
          case rel => exact ⟨n9, rs ++ [((2 : Int), pr, rn.1, rn.2)], by omega, hrl, by go_num, HN, HG12⟩
          case measure => simp [RowKit.intOf]; omega
        ·have d3 : ((Ru.lowS (Tk.tk ts k).2.1).toList == [112, 97, 103, 101]) = false := by rw [Rl.page_test]; exact decide_eq_false k3
         have HN := Lib.hid (HF.out (fun c => k3 (HR.out.1 c).2.2.1))
         clear k2 k2e k3
         clear HF HT HR HGE CC
         generalize Ru.lowS (Tk.tk ts k).2.1 = ls at *
         generalize (Tk.tk ts k).2.1 = s0 at *
         go_wp2_with (first | (go_at_call 33; ((with_reducible refine (CF.out).mono ?_); rintro e w3 ⟨rfl, b3⟩; have HB3 := Lib.hid b3; have HBW3 := Lib.hid (below_next HBR.out b3); have q1 := (HBW3.out.cell (p := ⟨b, off + k * 3 + 1, none⟩) HBb.out).trans HF1.out; have q0 := (HBW3.out.cell (p := ⟨b, off + e1 * 3, none⟩) HBb.out).trans pe; clear b3)) | (go_at_call 24; ((with_reducible refine (CL.out _).mono ?_); rintro e w4 ⟨rfl, b4⟩; have HB4 := Lib.hid (below_next HB3.out b4); have HBW4 := Lib.hid (below_next HBR.out HB4.out); clear b4)) | (go_at_call 36; ((with_reducible refine (CSk.out _ HBW4.out).mono ?_); rintro e w9 ⟨rfl, rfl⟩)))
         go_roundw
         case rel => exact ⟨n9, rs, by omega, by omega, by go_num, HN, Lib.hid (HG.out.next (Rl.keeps_rul true) HB4.out)⟩
         case measure => simp [RowKit.intOf]; omega
       ·have HN := Lib.hid (HF.out (fun c => k2 (HR.out.1 c).2.1))
        have e12 : ((Tk.tk ts e1).1 == 12) = false := beq_false_of_ne k2
        clear k2
        clear HF HT HR HGE CC
        generalize Ru.lowS (Tk.tk ts k).2.1 = ls at *
        generalize (Tk.tk ts k).2.1 = s0 at *
        generalize (Tk.tk ts e1).1 = ke at *
        go_wp2_with (first | (go_at_call 33; ((with_reducible refine (CF.out).mono ?_); rintro e w3 ⟨rfl, b3⟩; have HB3 := Lib.hid b3; have HBW3 := Lib.hid (below_next HBR.out b3); have q1 := (HBW3.out.cell (p := ⟨b, off + k * 3 + 1, none⟩) HBb.out).trans HF1.out; have q0 := (HBW3.out.cell (p := ⟨b, off + e1 * 3, none⟩) HBb.out).trans pe; clear b3)) | (go_at_call 36; ((with_reducible refine (CSk.out _ HBW3.out).mono ?_); rintro e w9 ⟨rfl, rfl⟩)))
        go_roundw
        case rel => exact ⟨n9, rs, by omega, by omega, by go_num, HN, Lib.hid (HG.out.next (Rl.keeps_rul true) HB3.out)⟩
        case measure => simp [RowKit.intOf]; omega
      ·have HN := Lib.hid (HF.out (fun c => k1 (HR.out.1 c).1))
       clear HF HT HR HGE CC
       generalize Ru.lowS (Tk.tk ts k).2.1 = ls at *
       generalize (Tk.tk ts k).2.1 = s0 at *
       go_wp2_with (first | (go_at_call 33; ((with_reducible refine (CF.out).mono ?_); rintro e w3 ⟨rfl, b3⟩; have HB3 := Lib.hid b3; have HBW3 := Lib.hid (below_next HBR.out b3); have q1 := (HBW3.out.cell (p := ⟨b, off + k * 3 + 1, none⟩) HBb.out).trans HF1.out; clear b3)) | (go_at_call 36; ((with_reducible refine (CSk.out _ HBW3.out).mono ?_); rintro e w9 ⟨rfl, rfl⟩)))
       go_roundw
       case rel => exact ⟨n9, rs, by omega, by omega, by go_num, HN, Lib.hid (HG.out.next (Rl.keeps_rul true) HB3.out)⟩
       case measure => simp [RowKit.intOf]; omega
     ·skip
      have hi : Rl.isAt ts k = false := decide_eq_false h4
      have he : Rl.endAt ts k = Rl.fo (Rl.stB false) ts k ts.length := by unfold Rl.endAt; rw [hi]; rfl
      have HGE : Hid (Rl.endAt ts k < ts.length -> (Tk.tk ts (Rl.endAt ts k)).1 = 12 -> 0 <= Ru.g (Ns.ends ts) (Rl.endAt ts k)) := Lib.hid (by rw [he]; exact Rl.fo_end (Nat.le_refl _))
      have HR : Hid (Rl.isRule sd ts k ↔ (Rl.endAt ts k < ts.length /\ (Tk.tk ts (Rl.endAt ts k)).1 = 12 /\ sd (Rl.trim (Rl.sub ts k (Rl.endAt ts k))) = true)) := Lib.hid ⟨fun h => by
       have h9 := h.2.2.2
       rw [hi, if_neg Bool.false_ne_true] at h9
       exact ⟨h.1, h.2.1, h9⟩, fun h => by
       unfold Rl.isRule
       rw [hi, if_neg Bool.false_ne_true]
       exact ⟨h.1, h.2.1, fun c => Bool.noConfusion c, h.2.2⟩⟩
      have HT : Hid (Rl.isRule sd ts k -> Rl.prs sd ts 0 = (rs ++ [((1 : Int), Rl.trim (Rl.sub ts k (Rl.endAt ts k)), (Rl.blk sd ts false (Rl.endAt ts k + 1) (Ru.g (Ns.ends ts) (Rl.endAt ts k)).toNat).1, (Rl.blk sd ts false (Rl.endAt ts k + 1) (Ru.g (Ns.ends ts) (Rl.endAt ts k)).toNat).2)]) ++ Rl.prs sd ts (Ns.sk (Ns.ends ts) (Rl.endAt ts k))) := Lib.hid fun hr => by
       have h9 := HT0.out hr
       rw [hi, if_neg Bool.false_ne_true, if_neg Bool.false_ne_true] at h9
       rw [h9]; simp
      have CF : Hid (Calls Tryz.prog 33 #[.slice (some ⟨b, off, none⟩) ts.length c1, .slice C2 (Ns.ends ts).length cc, .int .i64 (k : Int), .int .i64 ts.length, .bool false] wr (Nu ((Rl.endAt ts k : Nat) : Int) wr)) := Lib.hid (by
       have := rfirst_any ts (by omega) (some ⟨b, off, none⟩) C2 c1 cc k ts.length (by omega) (Nat.le_refl _) false wr (H.out.next HBR.out) (H2.out.next HBR.out)
       rw [he]
       exact this)
      have hfb2 : k <= Rl.endAt ts k := hfb.1
      clear h1 he hgl HT0
      have n4 : ((Tk.tk ts k).1 == 4) = false := beq_false_of_ne h4
      clear h4
      generalize Rl.endAt ts k = e1 at *
      have CC : Hid (∀ W, Below w2.heap.size w2 W -> Calls Tryz.prog 34 #[.slice (some ⟨b, off, none⟩) ts.length c1, .int .i64 (k : Int), .int .i64 e1] W (ToldT (Rl.trim (Rl.sub ts k e1)) W)) := Lib.hid fun W hb => by
       have := rcut_any ts (by omega) (some ⟨b, off, none⟩) c1 hc1 k e1 hfb2 hfb.2 W (H.out.next hb)
       exact this
      generalize HN9 : Ns.sk (Ns.ends ts) e1 = n9 at *
      clear HN9
      by_cases k1 : e1 < ts.length
      ·have pe := (HP.out e1 k1).1
       by_cases k2 : (Tk.tk ts e1).1 = 12
       ·have k2e := k2
        rw [k2] at pe
        have hge := HGE.out k1 k2e
        have hec : (e1 : Int) < ((Ns.ends ts).length : Int) := by rw [HEL.out]; omega
        obtain ⟨bC, oC, rfl, hbC, hpC⟩ := H2.out (by rw [HEL.out]; omega)
        have HBC := Lib.hid hbC
        have pc := hpC e1 (by rw [HEL.out]; exact k1)
        have hgl2 : Ru.g (Ns.ends ts) e1 <= ts.length := by
         rcases Ns.ends_range (ts := ts) (k := e1) k1 with h | ⟨_, _, h⟩
         ·have h2 : Ru.g (Ns.ends ts) e1 = -1 := h.2
          omega
         ·exact h
        have CN : Hid (∀ W, Below w2.heap.size w2 W -> Calls Tryz.prog 35 #[.slice (some ⟨b, off, none⟩) ts.length c1, .slice (some ⟨bC, oC, none⟩) (Ns.ends ts).length cc, .int .i64 ((e1 : Int) + 1), .int .i64 (Ru.g (Ns.ends ts) e1), .bool false] W (ToldB (Rl.blk sd ts false (e1 + 1) (Ru.g (Ns.ends ts) e1).toNat) W)) := Lib.hid fun W hb => by
         have := rblock_any sd hsd ts hF (some ⟨b, off, none⟩) (some ⟨bC, oC, none⟩) c1 cc hc1 ((Ru.g (Ns.ends ts) e1).toNat - (e1 + 1)) false (e1 + 1) (Ru.g (Ns.ends ts) e1).toNat (Nat.le_refl _) (by omega) (by omega) W (H.out.next hb) (H2.out.next hb)
         rwa [show (((Ru.g (Ns.ends ts) e1).toNat : Nat) : Int) = Ru.g (Ns.ends ts) e1 by omega, show ((e1 + 1 : Nat) : Int) = (e1 : Int) + 1 by omega] at this
        have hvF : Pr.FairB (Rl.trim (Rl.sub ts k e1)) := by
         have h1 := trim_len (Rl.sub ts k e1)
         have h2 := Rl.sub_len (ts := ts) (a := k) (b := e1) (by omega)
         refine ⟨by omega, fun j hj => ?_⟩
         rw [Tk.tk_eq hj]
         obtain ⟨j2, hj2, e2⟩ := List.mem_iff_getElem.1 (sub_mem (trim_mem (List.getElem_mem hj)))
         have := hF.2 j2 hj2
         rwa [Tk.tk_eq hj2, e2] at this
        have CSd : Hid (∀ (A : Option Addr) (c : Nat) (W : World), (Rl.trim (Rl.sub ts k e1)).length <= c -> Ts W W.heap.size A (Rl.trim (Rl.sub ts k e1)) -> Calls Tryz.prog 21 #[.slice A (Rl.trim (Rl.sub ts k e1)).length c] W (Bo (sd (Rl.trim (Rl.sub ts k e1))) W)) := Lib.hid fun A c W hc hT => hsd _ hvF A c W hc hT
        have HNF : Hid (sd (Rl.trim (Rl.sub ts k e1)) = false -> Rl.prs sd ts 0 = rs ++ Rl.prs sd ts n9) := Lib.hid fun h => HF.out fun c => by have h9 := (HR.out.1 c).2.2; rw [h] at h9; cases h9
        have HNT := Lib.hid fun (h : sd (Rl.trim (Rl.sub ts k e1)) = true) => HT.out (HR.out.2 ⟨k1, k2e, h⟩)
        clear HF HT HR HGE hvF hpC hbC hgl2 hge k2 k2e hi
        generalize HRN : Rl.blk sd ts false (e1 + 1) (Ru.g (Ns.ends ts) e1).toNat = rn at *
        clear HRN
        generalize Ru.g (Ns.ends ts) e1 = ge at *
        generalize Rl.trim (Rl.sub ts k e1) = pr at *
        generalize sd pr = so at *
        generalize Ru.lowS (Tk.tk ts k).2.1 = ls at *
        generalize (Tk.tk ts k).2.1 = s0 at *
        go_upto_region 19 with (first | (go_at_call 33; ((with_reducible refine (CF.out).mono ?_); rintro e w3 ⟨rfl, b3⟩; have HB3 := Lib.hid b3; have HBW3 := Lib.hid (below_next HBR.out b3); have q1 := (HBW3.out.cell (p := ⟨b, off + k * 3 + 1, none⟩) HBb.out).trans HF1.out; have q0 := (HBW3.out.cell (p := ⟨b, off + e1 * 3, none⟩) HBb.out).trans pe; clear b3)) | (go_at_call 34; ((with_reducible refine (CC.out _ HBW3.out).mono ?_); rintro e w5 ⟨A5, c5, rfl, hc5, T5, b5⟩; have HB5 := Lib.hid (below_next HB3.out b5); have HT5 := Lib.hid T5; clear b5 T5)))
        have k6 := heap_alloc_new w5 (.cells #[.int .i64 1, .slice A5 pr.length c5, .slice none 0 0, .slice none 0 0] 47)
        have b6 := (Below.refl w5.heap.size w5).alloc (Nat.le_refl _) (.cells #[.int .i64 1, .slice A5 pr.length c5, .slice none 0 0, .slice none 0 0] 47)
        generalize w5.alloc (.cells #[.int .i64 1, .slice A5 pr.length c5, .slice none 0 0, .slice none 0 0] 47) = w6 at k6 b6 ⊢
        obtain ⟨⟨x0, x1, x2, x3⟩, x4, x5, x6, x7⟩ := Rl.four_cells k6
        go_upto_region 21 with fail
        clear x0 x1 x2 x3 x4 x5 x6 x7
        have K6 := Lib.hid k6
        have B6 := Lib.hid b6
        clear k6 b6
        have HBW6 := Lib.hid (below_next HBR.out (below_next HB5.out B6.out))
        have q6 := (HBW6.out.cell (p := ⟨bC, oC + e1, none⟩) HBC.out).trans pc
        go_upto_region 24 with (go_at_call 35; ((with_reducible refine (CN.out _ HBW6.out).mono ?_); rintro e w7 ⟨A7, c7, A8, c8, rfl, hc7, hc8, T7, Y7, _, T8, Y8, b7⟩; have B7 := Lib.hid (below_next B6.out b7); have K7 := Lib.hid (below_block b7 K6.out); obtain ⟨⟨x0, x1, x2, x3⟩, x4, x5, x6, x7⟩ := Rl.four_cells K7.out; have HS2 : Hid (Rl.SlQ (some 42) 3 (Rl.DecQ true) w7 rn.1 [.slice A7 rn.1.length c7]) := Lib.hid ⟨A7, c7, rfl, hc7, T7, Y7⟩; have HS3 : Hid (Rl.SlQ (some 49) 2 (Rl.MarQ true) w7 rn.2 [.slice A8 rn.2.length c8]) := Lib.hid ⟨A8, c8, rfl, hc8, T8, Y8⟩; clear b7 T7 Y7 T8 Y8))
        have k9 := Rl.set_two K7.out (.slice A7 rn.1.length c7) (.slice A8 rn.2.length c8)
        have o9 := Rl.only_two K7.out (.slice A7 rn.1.length c7) (.slice A8 rn.2.length c8)
        have b9 := (B7.out.setCell (Nat.le_refl _) (p := ⟨w5.heap.size, 2, none⟩) (.slice A7 rn.1.length c7)).setCell (Nat.le_refl _) (p := ⟨w5.heap.size, 3, none⟩) (.slice A8 rn.2.length c8)
        generalize (w7.setCell ⟨w5.heap.size, 2, none⟩ (.slice A7 rn.1.length c7)).setCell ⟨w5.heap.size, 3, none⟩ (.slice A8 rn.2.length c8) = w10 at k9 o9 b9 ⊢
        have T10 := Lib.hid (HT5.out.next b9)
        have T101 := Lib.hid T10.out.1
        have R2 := Lib.hid (Rl.kT_sl (E := 47) (E' := 42) (sz := 3) (by decide) (Rl.kT_dec2 (by decide)) _ _ _ _ _ HS2.out o9)
        have R3 := Lib.hid (Rl.kT_sl (E := 47) (E' := 49) (sz := 2) (by decide) (Rl.kT_mar2 (by decide) (by decide)) _ _ _ _ _ HS3.out o9)
        have R1 : Hid (Rl.SlQ (some 61) 3 Rl.TokQ w10 pr [.slice A5 pr.length c5]) := Lib.hid ⟨A5, c5, rfl, hc5, Rl.cells_ts T101.out, T10.out.2⟩
        have HB10 := Lib.hid (below_next HB5.out b9)
        have K10 := Lib.hid k9
        clear k9 o9 b9 x0 x1 x2 x3 x4 x5 x6 x7
        obtain ⟨⟨x0, x1, x2, x3⟩, _⟩ := Rl.four_cells K10.out
        cases so
        ·have HN := Lib.hid (HNF.out rfl)
         clear HNF HNT
         go_wp2_with (first | (go_at_call 21; ((with_reducible refine (CSd.out _ _ _ hc5 T101.out).mono ?_); rintro e w11 ⟨rfl, b11⟩; have HB11 := Lib.hid (below_next HB10.out b11); have HBW11 := Lib.hid (below_next HBR.out HB11.out); obtain ⟨⟨y0, y1, y2, y3⟩, _⟩ := Rl.four_cells (below_block b11 K10.out); have U1 := Lib.hid (Rl.keeps_sl Rl.keeps_tok _ _ _ _ R1.out b11); have U2 := Lib.hid (Rl.keeps_sl (Rl.keeps_dec true) _ _ _ _ R2.out b11); have U3 := Lib.hid (Rl.keeps_sl (Rl.keeps_mar true) _ _ _ _ R3.out b11); have HG11 := Lib.hid (HG.out.next (Rl.keeps_rul true) HB11.out); clear b11)) | (go_at_call 36; ((with_reducible refine (CSk.out _ HBW11.out).mono ?_); rintro e w9 ⟨rfl, rfl⟩)))
         go_roundw
         case rel => exact ⟨n9, rs, by omega, by omega, by go_num, HN, HG11⟩
         case measure => simp [RowKit.intOf]; omega
        ·have HN := Lib.hid (HNT.out rfl)
         have hrl : (rs ++ [((1 : Int), pr, rn.1, rn.2)]).length <= n9 := by rw [List.length_append]; simp only [List.length_cons, List.length_nil]; omega
         clear HNF HNT
         go_wp2_with (first | (go_at_call 21; ((with_reducible refine (CSd.out _ _ _ hc5 T101.out).mono ?_); rintro e w11 ⟨rfl, b11⟩; have HB11 := Lib.hid (below_next HB10.out b11); have HBW11 := Lib.hid (below_next HBR.out HB11.out); obtain ⟨⟨y0, y1, y2, y3⟩, _⟩ := Rl.four_cells (below_block b11 K10.out); have U1 := Lib.hid (Rl.keeps_sl Rl.keeps_tok _ _ _ _ R1.out b11); have U2 := Lib.hid (Rl.keeps_sl (Rl.keeps_dec true) _ _ _ _ R2.out b11); have U3 := Lib.hid (Rl.keeps_sl (Rl.keeps_mar true) _ _ _ _ R3.out b11); have HG11 := Lib.hid (HG.out.next (Rl.keeps_rul true) HB11.out); clear b11)) | (at_builtin; refine app_rul rfl _ _ rfl rfl HG11.out ((1 : Int), pr, rn.1, rn.2) _ _ _ U1.out U2.out U3.out _ _ rfl (by omega) ?_; intro v' w12 G1; have HG12 := Lib.hid G1; have HBW12 := Lib.hid G1.bel; clear G1) | (go_at_call 36; ((with_reducible refine (CSk.out _ HBW12.out).mono ?_); rintro e w9 ⟨rfl, rfl⟩)))
         go_roundw
         case rel => exact ⟨n9, rs ++ [((1 : Int), pr, rn.1, rn.2)], by omega, hrl, by go_num, HN, HG12⟩
         case measure => simp [RowKit.intOf]; omega
       ·have HN := Lib.hid (HF.out (fun c => k2 (HR.out.1 c).2.1))
        have e12 : ((Tk.tk ts e1).1 == 12) = false := beq_false_of_ne k2
        clear k2
        clear HF HT HR HGE CC
        generalize Ru.lowS (Tk.tk ts k).2.1 = ls at *
        generalize (Tk.tk ts k).2.1 = s0 at *
        generalize (Tk.tk ts e1).1 = ke at *
        go_wp2_with (first | (go_at_call 33; ((with_reducible refine (CF.out).mono ?_); rintro e w3 ⟨rfl, b3⟩; have HB3 := Lib.hid b3; have HBW3 := Lib.hid (below_next HBR.out b3); have q1 := (HBW3.out.cell (p := ⟨b, off + k * 3 + 1, none⟩) HBb.out).trans HF1.out; have q0 := (HBW3.out.cell (p := ⟨b, off + e1 * 3, none⟩) HBb.out).trans pe; clear b3)) | (go_at_call 36; ((with_reducible refine (CSk.out _ HBW3.out).mono ?_); rintro e w9 ⟨rfl, rfl⟩)))
        go_roundw
        case rel => exact ⟨n9, rs, by omega, by omega, by go_num, HN, Lib.hid (HG.out.next (Rl.keeps_rul true) HB3.out)⟩
        case measure => simp [RowKit.intOf]; omega
      ·have HN := Lib.hid (HF.out (fun c => k1 (HR.out.1 c).1))
       clear HF HT HR HGE CC
       generalize Ru.lowS (Tk.tk ts k).2.1 = ls at *
       generalize (Tk.tk ts k).2.1 = s0 at *
       go_wp2_with (first | (go_at_call 33; ((with_reducible refine (CF.out).mono ?_); rintro e w3 ⟨rfl, b3⟩; have HB3 := Lib.hid b3; have HBW3 := Lib.hid (below_next HBR.out b3); have q1 := (HBW3.out.cell (p := ⟨b, off + k * 3 + 1, none⟩) HBb.out).trans HF1.out; clear b3)) | (go_at_call 36; ((with_reducible refine (CSk.out _ HBW3.out).mono ?_); rintro e w9 ⟨rfl, rfl⟩)))
       go_roundw
       case rel => exact ⟨n9, rs, by omega, by omega, by go_num, HN, Lib.hid (HG.out.next (Rl.keeps_rul true) HB3.out)⟩
       case measure => simp [RowKit.intOf]; omega
   ·have HN : Hid (Rl.prs sd ts 0 = rs) := Lib.hid (by rw [HP0.out, Rl.prs_end sd ts hlt, List.append_nil])
    clear HP0
    rcases HV.out with ⟨v1, v2, v3⟩ | ⟨v1, v2, v3⟩
    ·rw [HN.out] at v1
     obtain ⟨A9, c9, rfl, hc9, _, _⟩ := HG.out.form
     have d9 : decide (1024 < (rs.length : Int)) = true := decide_eq_true (by omega)
     clear HV
     go_wp2_with fail
     exact bodyPost_ret (v := .tuple #[.slice none 0 0, .int .i64 2]) (by simp [results, Tryz.results12, go_sem]) rfl (by rw [v2, v3]; exact told_none 2 (below_next HB2.out HBR.out))
    ·rw [HN.out] at v1 v2
     obtain ⟨A9, c9, rfl, hc9, C9, T9⟩ := HG.out.form
     have d9 : decide (1024 < (rs.length : Int)) = false := decide_eq_false (by omega)
     have HC := Lib.hid C9
     have HT := Lib.hid T9
     clear HV C9 T9
     go_wp2_with fail
     exact bodyPost_ret (v := .tuple #[.slice A9 rs.length c9, .int .i64 0]) (by simp [results, Tryz.results12, go_sem]) rfl (by rw [v2, v3]; exact ⟨A9, c9, rfl, hc9, HC.out, HT.out, below_next HB2.out HBR.out⟩)
theorem rwithin_any (c : Int) (w : World) :
 Calls Tryz.prog 110 #[.int .i64 c] w fun e w' => e = .returned (.bool (Ru.witB c)) /\ w = w' := by
 unfold Ru.witB
 cases hb : Ru.begB c
 ·by_cases b1 : c = 45
  ·subst b1
   go_enter Tryz.func110, Tryz.ntmps110
   go_wp2_with (go_at_call 149; refine (rbegins_any _ _).mono ?_; rintro e w' ⟨rfl, rfl⟩)
   go_ret
   exact ⟨rfl, rfl⟩
  ·have e1 := Ru.eq_f b1
   by_cases a1 : 48 <= c <;> by_cases a2 : c <= 57
   all_goals try omega
   all_goals
    go_enter Tryz.func110, Tryz.ntmps110
    go_wp2_with (go_at_call 149; refine (rbegins_any _ _).mono ?_; rintro e w' ⟨rfl, rfl⟩)
    go_ret
    exact ⟨ret_bool (by rw [Bool.eq_iff_iff]; simp; try omega), rfl⟩
 ·go_enter Tryz.func110, Tryz.ntmps110
  go_wp2_with (go_at_call 149; refine (rbegins_any _ _).mono ?_; rintro e w' ⟨rfl, rfl⟩)
  go_ret
  exact ⟨rfl, rfl⟩
theorem rhex_any (c : Int) (w : World) :
 Calls Tryz.prog 203 #[.int .i64 c] w fun e w' => e = .returned (.int .i64 (Ru.hexV c)) /\ w = w' := by
 by_cases b1 : 48 <= c <;> by_cases b2 : c <= 57 <;> by_cases a1 : 97 <= c <;> by_cases a2 : c <= 102 <;> by_cases a3 : 65 <= c <;> by_cases a4 : c <= 70
 all_goals try omega
 all_goals
  go_enter Tryz.func203, Tryz.ntmps203
  go_wp2_with fail
  go_ret
  exact ⟨ret_int (by unfold Ru.hexV; omega), rfl⟩
theorem enc_bad {c : Int} (h : ¬ Ru.Is c) : Lib.encodeRuneZ 65533 = Lib.encodeRuneZ c := by
 unfold Ru.Is at h
 rw [Lib.encodeRuneZ_bad (r := c) (by omega)]
 decide
theorem rwrite_next {w wr wb w3 : World} {v v' : Value} {l : List Int} {k : Nat} {x : Int} (hk : l.take (k + 1) = l.take k ++ [x])
 (hown : wr.ownsRow w.heap.size 5 1 v (Ru.wr (l.take k)).length (nums .u8 (Ru.wr (l.take k)))) (hbel : Below w.heap.size w wr) (hb : Below wr.heap.size wr wb)
 (hown3 : w3.ownsRow w.heap.size 5 1 v' ((Ru.wr (l.take k)).length + (Lib.encodeRuneZ x).length) (nums .u8 (Ru.wr (l.take k)) ++ nums .u8 (Lib.encodeRuneZ x))) (hgrow : wb.grownBy w3 v.ownBlock) :
 w3.ownsRow w.heap.size 5 1 v' (Ru.wr (l.take (k + 1))).length (nums .u8 (Ru.wr (l.take (k + 1)))) /\ Below w.heap.size w w3 := by
 refine ⟨?_, ?_⟩
 ·rw [hk, Ru.wr_snoc, nums_app, List.length_append]
  exact hown3
 ·have hs := hbel.size
  have hs2 := hb.size
  exact (hbel.trans (hb.mono hs)).grown hgrow (by omega) (fun j hj => (hown.lt j hj).1)
theorem nums_size (k : IntKind) (l : List Int) : (nums k l).length = l.length * 1 := by rw [nums_len]; omega
theorem rwrite_any (l : List Int) (A : Option Addr) (cap : Nat) (w : World) (hm : l.length <= 65536) (hcap : l.length <= cap) (hA : Bs w w.heap.size .i64 A l) :
 Calls Tryz.prog 176 #[.slice A l.length cap] w (Made .u8 5 (Ru.wr l) w) := by
 obtain ⟨i0, hi, hz0, hz1, hz2⟩ := info_parts Tryz.info5
 have CB : Hid (∀ (c x : Int) (wq : World), Ru.Is c -> Lib.encodeRuneZ c = Lib.encodeRuneZ x -> Calls Tryz.prog 189 #[.int .i64 c] wq (Fresh .u8 (Lib.encodeRuneZ x) wq)) :=
  Lib.hid fun c x wq h1 h2 => by rw [<- h2]; exact bytes_any c wq h1
 have HA := Lib.hid hA
 clear hA
 by_cases h0 : 0 < l.length
 ·obtain ⟨b, off, rfl, hb, hp⟩ := HA.out h0
  have HP := Lib.hid hp
  clear hp HA
  go_enter Tryz.func176, Tryz.ntmps176
  go_wp2_with fail
  go_loopw [3, 4] (fun v3 v4 wr => WriteAt w l v3 v4 wr) (fun _ v4 _ => l.length - (RowKit.intOf v4).toNat)
  case atStart => exact ⟨0, Nat.zero_le _, rfl, World.ownsRow_nil _ _ _ _, Below.refl _ _⟩
  case round =>
   obtain ⟨k, hk, rfl, hown, hbel⟩ := hrel
   have HO := Lib.hid hown
   have HB := Lib.hid hbel
   clear hown hbel
   by_cases hlt : k < l.length
   ·have hcell := (HB.out.cell (p := ⟨b, off + k, none⟩) hb).trans (HP.out k hlt)
    have HN := Lib.hid (Ru.take_g hlt)
    have hle := Lib.encodeRuneZ_length (Ru.g l k)
    have hc0 : (Ru.wr (l.take k)).length + 4 <= 1000000 := by have := Ru.wr_len (l.take k); have := List.length_take_le k l; omega
    have hc3 : (Ru.wr (l.take k)).length + (Lib.encodeRuneZ (Ru.g l k)).length <= maxLen := by unfold maxLen; omega
    have hc4 : ((Ru.wr (l.take k)).length + (Lib.encodeRuneZ (Ru.g l k)).length) * 1 <= 140737488355328 := by omega
    clear hle hc0
    cases his : Ru.isB (Ru.g l k)
    ·have hbad : ¬ Ru.Is (Ru.g l k) := fun h => by rw [Ru.isB_iff.2 h] at his; cases his
     have C' := Lib.hid (fun wq => CB.out 65533 (Ru.g l k) wq (by unfold Ru.Is; omega) (enc_bad hbad))
     clear hbad CB
     generalize Ru.g l k = x at *
     go_wp2_with (first | (go_at_call 188; ((with_reducible refine (ris_any _ _).mono ?_); rintro e w' ⟨rfl, rfl⟩)) | (go_at_call 189; ((with_reducible refine (C'.out _).mono ?_); rintro e wb ⟨bb, bc, rfl, hcs, hbb⟩)) | (at_builtin; refine wpList_append_own _ rfl _ _ 22 rfl w.heap.size 5 i0 (.int .u8 0) 1 1 Tryz.underlying22 hi hz0 hz1 hz2 rfl (by decide) _ _ _ rfl (kept_below HO.out hbb (Nat.le_refl _)) ⟨bb, 0, none⟩ _ bc (nums .u8 (Lib.encodeRuneZ x)) rfl (nums_size _ _) hcs (nums_one _ _) hc3 hc4 (Nat.le_trans HB.out.size hbb.size) ?_; intro v' w3 hown3 hgrow _; have HO3 := Lib.hid (rwrite_next HN.out HO.out HB.out hbb hown3 hgrow); clear hown3 hgrow hcs hbb))
     go_roundw
     case rel => exact ⟨k + 1, by omega, by go_num, HO3.out.1, HO3.out.2⟩
     case measure => simp [RowKit.intOf]; omega
    ·have C' := Lib.hid (fun wq => CB.out (Ru.g l k) (Ru.g l k) wq (Ru.isB_iff.1 his) rfl)
     clear CB
     generalize Ru.g l k = x at *
     go_wp2_with (first | (go_at_call 188; ((with_reducible refine (ris_any _ _).mono ?_); rintro e w' ⟨rfl, rfl⟩)) | (go_at_call 189; ((with_reducible refine (C'.out _).mono ?_); rintro e wb ⟨bb, bc, rfl, hcs, hbb⟩)) | (at_builtin; refine wpList_append_own _ rfl _ _ 22 rfl w.heap.size 5 i0 (.int .u8 0) 1 1 Tryz.underlying22 hi hz0 hz1 hz2 rfl (by decide) _ _ _ rfl (kept_below HO.out hbb (Nat.le_refl _)) ⟨bb, 0, none⟩ _ bc (nums .u8 (Lib.encodeRuneZ x)) rfl (nums_size _ _) hcs (nums_one _ _) hc3 hc4 (Nat.le_trans HB.out.size hbb.size) ?_; intro v' w3 hown3 hgrow _; have HO3 := Lib.hid (rwrite_next HN.out HO.out HB.out hbb hown3 hgrow); clear hown3 hgrow hcs hbb))
     go_roundw
     case rel => exact ⟨k + 1, by omega, by go_num, HO3.out.1, HO3.out.2⟩
     case measure => simp [RowKit.intOf]; omega
   ·obtain rfl : k = l.length := by omega
    have hd : Hid (l.take l.length = l) := Lib.hid (List.take_length)
    clear HP
    go_wp2_with fail
    go_ret
    exact ⟨_, rfl, by have := HO.out; rw [hd.out] at this; exact this, HB.out⟩
 ·have hl : l = [] := List.eq_nil_of_length_eq_zero (by omega)
  subst hl
  go_enter Tryz.func176, Tryz.ntmps176
  go_wp2_with fail
  go_loop [3, 4] (fun v3 v4 => v3 = .slice none 0 0 /\ v4 = .int .i64 0) (fun _ _ => 0)
  case atStart => exact ⟨rfl, rfl⟩
  case round =>
   obtain ⟨rfl, rfl⟩ := hrel
   go_wp2_with fail
   go_ret
   exact ⟨_, rfl, World.ownsRow_nil _ _ _ _, Below.refl _ _⟩
def On (w : World) (l : List Int) (b off : Nat) : Prop := ∀ j, j < l.length -> w.cell? ⟨b, off + j, none⟩ = some (.int .i64 (Ru.g l j))
theorem On.below {w w' : World} {l : List Int} {b off : Nat} (h : On w l b off) {B : Nat} (hb : b < B) (hw : Below B w w') : On w' l b off := fun j hj => (hw.cell (p := ⟨b, off + j, none⟩) hb).trans (h j hj)
theorem cast1 (k : Nat) : (k : Int) + 1 = ((k + 1 : Nat) : Int) := by omega
theorem tat_any (l : List Int) (x : Int) (k : Nat) (hx : x = (k : Int)) (b off cap : Nat) (w : World) (_hm : l.length <= 65536) (hp : On w l b off) :
 Calls Tryz.prog 108 #[.slice (some ⟨b, off, none⟩) l.length cap, .int .i64 x] w fun e w' => e = .returned (.int .i64 (Tk.at' l k)) /\ w = w' := by
 subst hx
 by_cases h : k < l.length
 ·have hc := hp k h
  rw [Tk.at_in h]
  generalize Ru.g l k = y at *
  clear hp
  go_enter Tryz.func108, Tryz.ntmps108
  go_wp2_with fail
  go_ret
  exact ⟨rfl, rfl⟩
 ·rw [Tk.at_out h]
  clear hp
  go_enter Tryz.func108, Tryz.ntmps108
  go_wp2_with fail
  go_ret
  exact ⟨rfl, rfl⟩
theorem twhite_any (c : Int) (w : World) :
 Calls Tryz.prog 107 #[.int .i64 c] w fun e w' => e = .returned (.bool (Ru.whiB c)) /\ w = w' := by
 by_cases a1 : c = 9
 ·subst a1
  go_enter Tryz.func107, Tryz.ntmps107
  go_wp2_with fail
  go_ret
  exact ⟨rfl, rfl⟩
 ·by_cases a2 : c = 10
  ·subst a2
   go_enter Tryz.func107, Tryz.ntmps107
   go_wp2_with fail
   go_ret
   exact ⟨rfl, rfl⟩
  ·by_cases a3 : c = 32
   ·subst a3
    go_enter Tryz.func107, Tryz.ntmps107
    go_wp2_with fail
    go_ret
    exact ⟨rfl, rfl⟩
   ·have e1 := Ru.eq_f a1
    have e2 := Ru.eq_f a2
    have e3 := Ru.eq_f a3
    go_enter Tryz.func107, Tryz.ntmps107
    go_wp2_with fail
    go_ret
    exact ⟨ret_bool (by unfold Ru.whiB; simp [a1, a2, a3]), rfl⟩
def AtIs (l : List Int) (b off cap : Nat) (w : World) : Prop := ∀ (x : Int) (k : Nat), x = (k : Int) -> Calls Tryz.prog 108 #[.slice (some ⟨b, off, none⟩) l.length cap, .int .i64 x] w fun e w' => e = .returned (.int .i64 (Tk.at' l k)) /\ w = w'
theorem at_is (l : List Int) (b off cap : Nat) (w : World) (hm : l.length <= 65536) (hp : On w l b off) : Hid (AtIs l b off cap w) := Lib.hid fun x k hx => tat_any l x k hx b off cap w hm hp
theorem tesc_any (l : List Int) (x : Int) (k : Nat) (hx : x = (k : Int)) (b off cap : Nat) (w : World) (hm : l.length <= 65536) (hk : k <= 100000) (hp : On w l b off) :
 Calls Tryz.prog 111 #[.slice (some ⟨b, off, none⟩) l.length cap, .int .i64 x] w fun e w' => e = .returned (.bool (Tk.esc l k)) /\ w = w' := by
 subst hx
 have CT := at_is l b off cap w hm hp
 clear hp
 unfold Tk.esc
 have C0 := Lib.hid (CT.out _ k rfl)
 have C1 := Lib.hid (CT.out _ _ (cast1 k))
 clear CT
 generalize Tk.at' l k = a0 at *
 generalize Tk.at' l (k + 1) = a1 at *
 by_cases e0 : a0 = 92
 ·subst e0
  by_cases e1 : 0 <= a1
  ·by_cases e2 : a1 = 10
   ·subst e2
    go_enter Tryz.func111, Tryz.ntmps111
    go_wp2_with (go_at_call 108; first | ((with_reducible refine (C0.out).mono ?_); rintro e w' ⟨rfl, rfl⟩) | ((with_reducible refine (C1.out).mono ?_); rintro e w' ⟨rfl, rfl⟩))
    go_ret
    exact ⟨rfl, rfl⟩
   ·have f2 : (a1 != 10) = true := by rw [bne_iff_ne]; exact e2
    go_enter Tryz.func111, Tryz.ntmps111
    go_wp2_with (go_at_call 108; first | ((with_reducible refine (C0.out).mono ?_); rintro e w' ⟨rfl, rfl⟩) | ((with_reducible refine (C1.out).mono ?_); rintro e w' ⟨rfl, rfl⟩))
    go_ret
    exact ⟨ret_bool (by simp [e1, e2]), rfl⟩
  ·go_enter Tryz.func111, Tryz.ntmps111
   go_wp2_with (go_at_call 108; first | ((with_reducible refine (C0.out).mono ?_); rintro e w' ⟨rfl, rfl⟩) | ((with_reducible refine (C1.out).mono ?_); rintro e w' ⟨rfl, rfl⟩))
   go_ret
   exact ⟨ret_bool (by simp; omega), rfl⟩
 ·have f0 := Ru.eq_f e0
  go_enter Tryz.func111, Tryz.ntmps111
  go_wp2_with (go_at_call 108; first | ((with_reducible refine (C0.out).mono ?_); rintro e w' ⟨rfl, rfl⟩) | ((with_reducible refine (C1.out).mono ?_); rintro e w' ⟨rfl, rfl⟩))
  go_ret
  exact ⟨ret_bool (by simp [e0]), rfl⟩
def EscIs (l : List Int) (b off cap : Nat) (w : World) : Prop := ∀ (x : Int) (k : Nat), x = (k : Int) -> k <= 100000 -> Calls Tryz.prog 111 #[.slice (some ⟨b, off, none⟩) l.length cap, .int .i64 x] w fun e w' => e = .returned (.bool (Tk.esc l k)) /\ w = w'
theorem esc_is (l : List Int) (b off cap : Nat) (w : World) (hm : l.length <= 65536) (hp : On w l b off) : Hid (EscIs l b off cap w) := Lib.hid fun x k hx hk => tesc_any l x k hx b off cap w hm hk hp
theorem tmay_any (l : List Int) (x : Int) (k : Nat) (hx : x = (k : Int)) (b off cap : Nat) (w : World) (hm : l.length <= 65536) (hk : k <= 100000) (hp : On w l b off) :
 Calls Tryz.prog 175 #[.slice (some ⟨b, off, none⟩) l.length cap, .int .i64 x] w fun e w' => e = .returned (.bool (Tk.may l k)) /\ w = w' := by
 subst hx
 have C0 := Lib.hid ((at_is l b off cap w hm hp).out _ k rfl)
 have C1 := Lib.hid ((esc_is l b off cap w hm hp).out _ k rfl hk)
 clear hp
 unfold Tk.may
 generalize Tk.at' l k = a0 at *
 generalize Tk.esc l k = a1 at *
 cases hb : Ru.begB a0
 all_goals
  go_enter Tryz.func175, Tryz.ntmps175
  go_wp2_with (first | (go_at_call 108; ((with_reducible refine (C0.out).mono ?_); rintro e w' ⟨rfl, rfl⟩)) | (go_at_call 111; ((with_reducible refine (C1.out).mono ?_); rintro e w' ⟨rfl, rfl⟩)) | (go_at_call 149; ((with_reducible refine (rbegins_any _ _).mono ?_); rintro e w' ⟨rfl, rfl⟩)))
  go_ret
  exact ⟨ret_bool (by simp), rfl⟩
def MayIs (l : List Int) (b off cap : Nat) (w : World) : Prop := ∀ (x : Int) (k : Nat), x = (k : Int) -> k <= 100000 -> Calls Tryz.prog 175 #[.slice (some ⟨b, off, none⟩) l.length cap, .int .i64 x] w fun e w' => e = .returned (.bool (Tk.may l k)) /\ w = w'
theorem may_is (l : List Int) (b off cap : Nat) (w : World) (hm : l.length <= 65536) (hp : On w l b off) : Hid (MayIs l b off cap w) := Lib.hid fun x k hx hk => tmay_any l x k hx b off cap w hm hk hp
theorem tbegs_any (l : List Int) (x : Int) (k : Nat) (hx : x = (k : Int)) (b off cap : Nat) (w : World) (hm : l.length <= 65536) (hk : k <= 90000) (hp : On w l b off) :
 Calls Tryz.prog 116 #[.slice (some ⟨b, off, none⟩) l.length cap, .int .i64 x] w fun e w' => e = .returned (.bool (Tk.begs l k)) /\ w = w' := by
 subst hx
 have C0 := Lib.hid ((at_is l b off cap w hm hp).out _ k rfl)
 have C1 := Lib.hid ((at_is l b off cap w hm hp).out _ _ (cast1 k))
 have D0 := Lib.hid ((may_is l b off cap w hm hp).out _ k rfl (by omega))
 have D1 := Lib.hid ((may_is l b off cap w hm hp).out _ _ (cast1 k) (by omega))
 clear hp
 unfold Tk.begs
 generalize Tk.at' l k = a0 at *
 generalize Tk.at' l (k + 1) = a1 at *
 generalize Tk.may l k = m0 at *
 generalize Tk.may l (k + 1) = m1 at *
 cases m0
 ·by_cases e0 : a0 = 45
  ·subst e0
   cases m1
   ·by_cases e1 : a1 = 45
    ·subst e1
     go_enter Tryz.func116, Tryz.ntmps116
     go_wp2_with (first | (go_at_call 108; first | ((with_reducible refine (C0.out).mono ?_); rintro e w' ⟨rfl, rfl⟩) | ((with_reducible refine (C1.out).mono ?_); rintro e w' ⟨rfl, rfl⟩)) | (go_at_call 175; first | ((with_reducible refine (D0.out).mono ?_); rintro e w' ⟨rfl, rfl⟩) | ((with_reducible refine (D1.out).mono ?_); rintro e w' ⟨rfl, rfl⟩)))
     go_ret
     exact ⟨rfl, rfl⟩
    ·have f1 := Ru.eq_f e1
     go_enter Tryz.func116, Tryz.ntmps116
     go_wp2_with (first | (go_at_call 108; first | ((with_reducible refine (C0.out).mono ?_); rintro e w' ⟨rfl, rfl⟩) | ((with_reducible refine (C1.out).mono ?_); rintro e w' ⟨rfl, rfl⟩)) | (go_at_call 175; first | ((with_reducible refine (D0.out).mono ?_); rintro e w' ⟨rfl, rfl⟩) | ((with_reducible refine (D1.out).mono ?_); rintro e w' ⟨rfl, rfl⟩)))
     go_ret
     exact ⟨ret_bool (by simp [e1]), rfl⟩
   ·go_enter Tryz.func116, Tryz.ntmps116
    go_wp2_with (first | (go_at_call 108; first | ((with_reducible refine (C0.out).mono ?_); rintro e w' ⟨rfl, rfl⟩) | ((with_reducible refine (C1.out).mono ?_); rintro e w' ⟨rfl, rfl⟩)) | (go_at_call 175; first | ((with_reducible refine (D0.out).mono ?_); rintro e w' ⟨rfl, rfl⟩) | ((with_reducible refine (D1.out).mono ?_); rintro e w' ⟨rfl, rfl⟩)))
    go_ret
    exact ⟨rfl, rfl⟩
  ·have f0 := Ru.eq_f e0
   go_enter Tryz.func116, Tryz.ntmps116
   go_wp2_with (first | (go_at_call 108; first | ((with_reducible refine (C0.out).mono ?_); rintro e w' ⟨rfl, rfl⟩) | ((with_reducible refine (C1.out).mono ?_); rintro e w' ⟨rfl, rfl⟩)) | (go_at_call 175; first | ((with_reducible refine (D0.out).mono ?_); rintro e w' ⟨rfl, rfl⟩) | ((with_reducible refine (D1.out).mono ?_); rintro e w' ⟨rfl, rfl⟩)))
   go_ret
   exact ⟨ret_bool (by simp [e0]), rfl⟩
 ·go_enter Tryz.func116, Tryz.ntmps116
  go_wp2_with (first | (go_at_call 108; first | ((with_reducible refine (C0.out).mono ?_); rintro e w' ⟨rfl, rfl⟩) | ((with_reducible refine (C1.out).mono ?_); rintro e w' ⟨rfl, rfl⟩)) | (go_at_call 175; first | ((with_reducible refine (D0.out).mono ?_); rintro e w' ⟨rfl, rfl⟩) | ((with_reducible refine (D1.out).mono ?_); rintro e w' ⟨rfl, rfl⟩)))
  go_ret
  exact ⟨rfl, rfl⟩
def BegsIs (l : List Int) (b off cap : Nat) (w : World) : Prop := ∀ (x : Int) (k : Nat), x = (k : Int) -> k <= 90000 -> Calls Tryz.prog 116 #[.slice (some ⟨b, off, none⟩) l.length cap, .int .i64 x] w fun e w' => e = .returned (.bool (Tk.begs l k)) /\ w = w'
theorem begs_is (l : List Int) (b off cap : Nat) (w : World) (hm : l.length <= 65536) (hp : On w l b off) : Hid (BegsIs l b off cap w) := Lib.hid fun x k hx hk => tbegs_any l x k hx b off cap w hm hk hp
def MeantAt (l : List Int) (k : Nat) (v1 v6 v7 : Value) : Prop :=
 ∃ (m j : Nat) (n : Int), m <= 6 /\ v7 = .int .i64 m /\ v1 = .int .i64 j /\ v6 = .int .i64 n /\ j <= k + 1 + m /\ k + 1 + m <= j /\ 0 <= n /\ n <= 16777215 /\ Hid (Tk.hexR (6 - m) l j n = Tk.hexR 6 l (k + 1) 0) /\ Hid (n < 16 ^ m)
theorem tmeant_any (l : List Int) (k : Nat) (b off cap : Nat) (w : World) (hm : l.length <= 65536) (hk : k + 1 < l.length) (hp : On w l b off) :
 Calls Tryz.prog 173 #[.slice (some ⟨b, off, none⟩) l.length cap, .int .i64 k] w fun e w' => e = .returned (.tuple #[.int .i64 (Tk.meant l k).1, .int .i64 ((Tk.meant l k).2 : Nat)]) /\ w = w' := by
 have CT := at_is l b off cap w hm hp
 have hcell := hp (k + 1) hk
 clear hp
 go_enter Tryz.func173, Tryz.ntmps173
 go_wp2_with fail
 go_loop [1, 6, 7] (fun v1 v6 v7 => MeantAt l k v1 v6 v7) (fun _ _ v7 => 6 - (RowKit.intOf v7).toNat)
 case atStart => exact ⟨0, k + 1, 0, by omega, rfl, by go_num, rfl, by omega, by omega, by omega, by omega, Lib.hid rfl, Lib.hid (by decide)⟩
 case round =>
  obtain ⟨m, j, n, m1, rfl, rfl, rfl, j1, j2, n1, n2, HR, HN⟩ := hrel
  have C0 := Lib.hid (CT.out _ j rfl)
  by_cases hlt : m < 6
  ·by_cases hh : 0 <= Ru.hexV (Tk.at' l j)
   ·have hle := (Tk.hexV_le (Tk.at' l j)).2
    have HX : Hid (Tk.hexR (6 - (m + 1)) l (j + 1) (n * 16 + Ru.hexV (Tk.at' l j)) = Tk.hexR 6 l (k + 1) 0) := Lib.hid (by
     have := Tk.hexR_yes (f := 6 - (m + 1)) (n := n) hh
     rw [<- HR.out, show 6 - m = 6 - (m + 1) + 1 by omega, this])
    have hp5 := Tk.pow16 (m := m) (by omega)
    have hn3 : n <= 1048575 := by have := HN.out; omega
    have HN' : Hid (n * 16 + Ru.hexV (Tk.at' l j) < 16 ^ (m + 1)) := Lib.hid (by have := HN.out; rw [Int.pow_succ]; omega)
    clear HN HR hp5 CT hcell
    generalize Tk.at' l j = a at *
    generalize hhx : Ru.hexV a = h at *
    go_wp2_with (first | (go_at_call 108; ((with_reducible refine (C0.out).mono ?_); rintro e w' ⟨rfl, rfl⟩)) | (go_at_call 203; ((with_reducible refine (rhex_any _ _).mono ?_); rintro e w' ⟨rfl, rfl⟩)) | (go_at_call 107; ((with_reducible refine (twhite_any _ _).mono ?_); rintro e w' ⟨rfl, rfl⟩)) | (go_at_call 188; ((with_reducible refine (ris_any _ _).mono ?_); rintro e w' ⟨rfl, rfl⟩)))
    go_round
    case rel => exact ⟨m + 1, j + 1, n * 16 + h, by omega, by go_num, by go_num, rfl, by omega, by omega, by omega, by omega, HX, HN'⟩
    case measure => simp [RowKit.intOf]; omega
   ·have HE : Hid (Tk.hexR 6 l (k + 1) 0 = (n, j)) := Lib.hid (by rw [<- HR.out, Tk.hexR_no hh])
    clear HR HN
    have hh' : Ru.hexV (Tk.at' l j) < 0 := by omega
    clear hh
    by_cases m0 : m = 0
    ·subst m0
     have ej : j = k + 1 := by omega
     have HM := Lib.hid (Tk.meant_none (l := l) (k := k) (n := n) (by rw [HE.out, ej]))
     rw [<- ej] at hcell HM
     clear CT HE ej
     generalize Tk.at' l j = a at *
     generalize Ru.g l j = y at *
     go_wp2_with (first | (go_at_call 108; ((with_reducible refine (C0.out).mono ?_); rintro e w' ⟨rfl, rfl⟩)) | (go_at_call 203; ((with_reducible refine (rhex_any _ _).mono ?_); rintro e w' ⟨rfl, rfl⟩)) | (go_at_call 107; ((with_reducible refine (twhite_any _ _).mono ?_); rintro e w' ⟨rfl, rfl⟩)) | (go_at_call 188; ((with_reducible refine (ris_any _ _).mono ?_); rintro e w' ⟨rfl, rfl⟩)))
     go_ret2
     exact ⟨ret_two (by rw [HM.out]) (by first | (rw [HM.out]; done) | (rw [HM.out]; omega)), rfl⟩
    ·have HM := Lib.hid (Tk.meant_some HE.out (by omega))
     have em : ((m : Int) == 0) = false := Ru.eq_f (by omega)
     have HK : Hid (Tk.meantK l j = if Ru.whiB (Tk.at' l j) = true then j + 1 else j) := Lib.hid rfl
     clear CT HE hcell
     generalize Tk.at' l j = a at *
     by_cases n0 : n = 0
     ·subst n0
      cases hw : Ru.whiB a
      all_goals
       rw [hw] at HK
       go_wp2_with (first | (go_at_call 108; ((with_reducible refine (C0.out).mono ?_); rintro e w' ⟨rfl, rfl⟩)) | (go_at_call 203; ((with_reducible refine (rhex_any _ _).mono ?_); rintro e w' ⟨rfl, rfl⟩)) | (go_at_call 107; ((with_reducible refine (twhite_any _ _).mono ?_); rintro e w' ⟨rfl, rfl⟩)) | (go_at_call 188; ((with_reducible refine (ris_any _ _).mono ?_); rintro e w' ⟨rfl, rfl⟩)))
       go_ret2
       exact ⟨ret_two (by rw [HM.out]; rfl) (by rw [HM.out, HK.out]; simp), rfl⟩
     ·have en : ((n : Int) == 0) = false := Ru.eq_f n0
      cases hi : Ru.isB n
      ·have HV : Hid (Tk.meantN n = 65533) := Lib.hid (by unfold Tk.meantN; rw [if_pos (Or.inr hi)])
       cases hw : Ru.whiB a
       all_goals
        rw [hw] at HK
        go_wp2_with (first | (go_at_call 108; ((with_reducible refine (C0.out).mono ?_); rintro e w' ⟨rfl, rfl⟩)) | (go_at_call 203; ((with_reducible refine (rhex_any _ _).mono ?_); rintro e w' ⟨rfl, rfl⟩)) | (go_at_call 107; ((with_reducible refine (twhite_any _ _).mono ?_); rintro e w' ⟨rfl, rfl⟩)) | (go_at_call 188; ((with_reducible refine (ris_any _ _).mono ?_); rintro e w' ⟨rfl, rfl⟩)))
        go_ret2
        exact ⟨ret_two (by rw [HM.out, HV.out]) (by rw [HM.out, HK.out]; simp), rfl⟩
      ·have HV : Hid (Tk.meantN n = n) := Lib.hid (by unfold Tk.meantN; rw [if_neg (by rw [hi]; simp [n0])])
       cases hw : Ru.whiB a
       all_goals
        rw [hw] at HK
        go_wp2_with (first | (go_at_call 108; ((with_reducible refine (C0.out).mono ?_); rintro e w' ⟨rfl, rfl⟩)) | (go_at_call 203; ((with_reducible refine (rhex_any _ _).mono ?_); rintro e w' ⟨rfl, rfl⟩)) | (go_at_call 107; ((with_reducible refine (twhite_any _ _).mono ?_); rintro e w' ⟨rfl, rfl⟩)) | (go_at_call 188; ((with_reducible refine (ris_any _ _).mono ?_); rintro e w' ⟨rfl, rfl⟩)))
        go_ret2
        exact ⟨ret_two (by rw [HM.out, HV.out]) (by rw [HM.out, HK.out]; simp), rfl⟩
  ·have HE : Hid (Tk.hexR 6 l (k + 1) 0 = (n, j)) := Lib.hid (by rw [<- HR.out, show 6 - m = 0 by omega]; rfl)
   clear HR HN
   by_cases m0 : m = 0
   ·exact absurd (show m < 6 by omega) hlt
   ·have HM := Lib.hid (Tk.meant_some HE.out (by omega))
    have em : ((m : Int) == 0) = false := Ru.eq_f (by omega)
    have HK : Hid (Tk.meantK l j = if Ru.whiB (Tk.at' l j) = true then j + 1 else j) := Lib.hid rfl
    clear CT HE hcell
    generalize Tk.at' l j = a at *
    by_cases n0 : n = 0
    ·subst n0
     cases hw : Ru.whiB a
     all_goals
      rw [hw] at HK
      go_wp2_with (first | (go_at_call 108; ((with_reducible refine (C0.out).mono ?_); rintro e w' ⟨rfl, rfl⟩)) | (go_at_call 203; ((with_reducible refine (rhex_any _ _).mono ?_); rintro e w' ⟨rfl, rfl⟩)) | (go_at_call 107; ((with_reducible refine (twhite_any _ _).mono ?_); rintro e w' ⟨rfl, rfl⟩)) | (go_at_call 188; ((with_reducible refine (ris_any _ _).mono ?_); rintro e w' ⟨rfl, rfl⟩)))
      go_ret2
      exact ⟨ret_two (by rw [HM.out]; rfl) (by rw [HM.out, HK.out]; simp), rfl⟩
    ·have en : ((n : Int) == 0) = false := Ru.eq_f n0
     cases hi : Ru.isB n
     ·have HV : Hid (Tk.meantN n = 65533) := Lib.hid (by unfold Tk.meantN; rw [if_pos (Or.inr hi)])
      cases hw : Ru.whiB a
      all_goals
       rw [hw] at HK
       go_wp2_with (first | (go_at_call 108; ((with_reducible refine (C0.out).mono ?_); rintro e w' ⟨rfl, rfl⟩)) | (go_at_call 203; ((with_reducible refine (rhex_any _ _).mono ?_); rintro e w' ⟨rfl, rfl⟩)) | (go_at_call 107; ((with_reducible refine (twhite_any _ _).mono ?_); rintro e w' ⟨rfl, rfl⟩)) | (go_at_call 188; ((with_reducible refine (ris_any _ _).mono ?_); rintro e w' ⟨rfl, rfl⟩)))
       go_ret2
       exact ⟨ret_two (by rw [HM.out, HV.out]) (by rw [HM.out, HK.out]; simp), rfl⟩
     ·have HV : Hid (Tk.meantN n = n) := Lib.hid (by unfold Tk.meantN; rw [if_neg (by rw [hi]; simp [n0])])
      cases hw : Ru.whiB a
      all_goals
       rw [hw] at HK
       go_wp2_with (first | (go_at_call 108; ((with_reducible refine (C0.out).mono ?_); rintro e w' ⟨rfl, rfl⟩)) | (go_at_call 203; ((with_reducible refine (rhex_any _ _).mono ?_); rintro e w' ⟨rfl, rfl⟩)) | (go_at_call 107; ((with_reducible refine (twhite_any _ _).mono ?_); rintro e w' ⟨rfl, rfl⟩)) | (go_at_call 188; ((with_reducible refine (ris_any _ _).mono ?_); rintro e w' ⟨rfl, rfl⟩)))
       go_ret2
       exact ⟨ret_two (by rw [HM.out, HV.out]) (by rw [HM.out, HK.out]; simp), rfl⟩
end Go.Proofs.YtkcabpjfgbghjaaGreatDoor
namespace Go.Proofs.YtkcabpjfgbghjaaGreatDoor
namespace Ru
def cls (L a : Int) : Prop := (L = 2 /\ 192 <= a /\ a < 224) ∨ (L = 3 /\ 224 <= a /\ a < 240) ∨ (L = 4 /\ 240 <= a /\ a < 248)
def base (a : Int) : Int := if a < 224 then a - 192 else if a < 240 then a - 224 else a - 240
def spLo (k : Nat) (l : List Int) (x : Int) : Nat -> Int
 | 0 => x
 | j + 1 => if j + 1 < k then spLo k l x j * 64 + g l (j + 1) - 128 else spLo k l x j * 64
def spHi (k : Nat) (l : List Int) (x : Int) : Nat -> Int
 | 0 => x
 | j + 1 => if j + 1 < k then spHi k l x j * 64 + g l (j + 1) - 128 else spHi k l x j * 64 + 63
def okC (k : Nat) (l : List Int) (i : Nat) : Prop := ∀ j, 1 <= j -> j <= i -> j < k -> 128 <= g l j /\ g l j <= 191
def least (L : Int) : Int := if L = 4 then 65536 else if L = 3 then 2048 else 128
def mx (a b : Int) : Int := if a <= b then b else a
def roomLo (L lo : Int) : Int := if 55296 <= mx lo (least L) /\ mx lo (least L) <= 57343 then 57344 else mx lo (least L)
def room (L lo hi : Int) : Prop := roomLo L lo <= hi /\ roomLo L lo <= 1114111
theorem room_two (lo hi : Int) : room 2 lo hi ↔ (128 <= hi /\ lo <= hi /\ lo <= 1114111 /\ (lo < 55296 ∨ 57343 < lo ∨ 57344 <= hi)) := by
 unfold room roomLo mx least
 simp only [Int.reduceEq, if_false]
 repeat' split
 all_goals omega
theorem room_three (lo hi : Int) : room 3 lo hi ↔ (2048 <= hi /\ lo <= hi /\ lo <= 1114111 /\ (lo < 55296 ∨ 57343 < lo ∨ 57344 <= hi)) := by
 unfold room roomLo mx least
 simp only [Int.reduceEq, if_false, if_true]
 repeat' split
 all_goals omega
theorem room_four (lo hi : Int) : room 4 lo hi ↔ (65536 <= hi /\ lo <= hi /\ lo <= 1114111) := by
 unfold room roomLo mx least
 simp only [if_true]
 repeat' split
 all_goals omega
theorem okC_zero (k : Nat) (l : List Int) : okC k l 0 := fun j h1 h2 => by omega
theorem okC_next {k : Nat} {l : List Int} {i : Nat} (h : okC k l i) (h' : i + 1 < k -> 128 <= g l (i + 1) /\ g l (i + 1) <= 191) : okC k l (i + 1) := fun j h1 h2 h3 => by
 by_cases e : j = i + 1
 ·subst e; exact h' h3
 ·exact h j h1 (by omega) h3
theorem okC_three (k : Nat) (l : List Int) (i : Nat) (hi : i <= 3) : okC k l i ↔ ((i < 1 ∨ k <= 1 ∨ (128 <= g l 1 /\ g l 1 <= 191)) /\ (i < 2 ∨ k <= 2 ∨ (128 <= g l 2 /\ g l 2 <= 191)) /\ (i < 3 ∨ k <= 3 ∨ (128 <= g l 3 /\ g l 3 <= 191))) := by
 constructor
 ·intro h
  have h1 := h 1
  have h2 := h 2
  have h3 := h 3
  omega
 ·rintro ⟨h1, h2, h3⟩ j j1 j2 j3
  rcases (show j = 1 ∨ j = 2 ∨ j = 3 by omega) with rfl | rfl | rfl
  ·omega
  ·omega
  ·omega
theorem sp_bounds {k : Nat} {l : List Int} {x : Int} (h0 : 0 <= x) (h1 : x <= 31) : ∀ i, i <= 3 -> okC k l i -> 0 <= spLo k l x i /\ spLo k l x i <= spHi k l x i /\ spHi k l x i <= 32 * 64 ^ i - 1
 | 0, _, _ => by unfold spLo spHi; omega
 | i + 1, hi, h => by
   have ih := sp_bounds h0 h1 i (by omega) (fun j a b c => h j a (by omega) c)
   unfold spLo spHi
   have hp : (64 : Int) ^ (i + 1) = 64 ^ i * 64 := by rw [Int.pow_succ]
   rw [hp]
   by_cases hk : i + 1 < k
   ·have := h (i + 1) (by omega) (by omega) hk
    rw [if_pos hk, if_pos hk]
    omega
   ·rw [if_neg hk, if_neg hk]
    omega
theorem pow_three {i : Nat} (hi : i <= 3) : (64 : Int) ^ i <= 262144 := by
 rcases (show i = 0 ∨ i = 1 ∨ i = 2 ∨ i = 3 by omega) with rfl | rfl | rfl | rfl <;> decide
theorem mm_one {n a b c d : Int} (h : need a ≠ 0) : 1 <= mm n a b c d := by
 unfold mm
 repeat' split
 all_goals omega
theorem mm_two {n a b c d : Int} (h : need a ≠ 0) (hn : 1 < n) : 2 <= mm n a b c d ↔ lo2 a <= b /\ b <= hi2 a := by
 unfold mm
 repeat' split
 all_goals omega
theorem mm_three {n a b c d : Int} (h : need a = 3 ∨ need a = 4) (hn : 2 < n) : 3 <= mm n a b c d ↔ (lo2 a <= b /\ b <= hi2 a) /\ 128 <= c /\ c <= 191 := by
 unfold mm
 repeat' split
 all_goals omega
theorem mm_four {n a b c d : Int} (h : need a = 4) (hn : 3 < n) : 4 <= mm n a b c d ↔ (lo2 a <= b /\ b <= hi2 a) /\ (128 <= c /\ c <= 191) /\ 128 <= d /\ d <= 191 := by
 unfold mm
 repeat' split
 all_goals omega
theorem sp_two (k : Nat) (l : List Int) (x : Int) : spLo k l x 1 = (if 1 < k then x * 64 + g l 1 - 128 else x * 64) /\ spHi k l x 1 = (if 1 < k then x * 64 + g l 1 - 128 else x * 64 + 63) := ⟨rfl, rfl⟩
theorem sp_three (k : Nat) (l : List Int) (x : Int) : spLo k l x 2 = (if 2 < k then spLo k l x 1 * 64 + g l 2 - 128 else spLo k l x 1 * 64) /\ spHi k l x 2 = (if 2 < k then spHi k l x 1 * 64 + g l 2 - 128 else spHi k l x 1 * 64 + 63) := ⟨rfl, rfl⟩
theorem sp_four (k : Nat) (l : List Int) (x : Int) : spLo k l x 3 = (if 3 < k then spLo k l x 2 * 64 + g l 3 - 128 else spLo k l x 2 * 64) /\ spHi k l x 3 = (if 3 < k then spHi k l x 2 * 64 + g l 3 - 128 else spHi k l x 2 * 64 + 63) := ⟨rfl, rfl⟩
theorem bg_two (n k : Nat) (l : List Int) (h1 : 1 <= k) (h2 : k <= 2) (hn : k <= n) :
 (cls 2 (g l 0) /\ okC k l 1 /\ room 2 (spLo k l (base (g l 0)) 1) (spHi k l (base (g l 0)) 1)) ↔ (2 = need (g l 0) /\ (k : Int) <= mm n (g l 0) (g l 1) (g l 2) (g l 3)) := by
 rw [okC_three k l 1 (by omega), room_two]
 obtain ⟨s1, s2⟩ := sp_two k l (base (g l 0))
 by_cases hr : 192 <= g l 0 /\ g l 0 < 224
 ·have hx : base (g l 0) = g l 0 - 192 := by unfold base; omega
  have e1 : cls 2 (g l 0) := by unfold cls; omega
  rw [s1, s2, hx]
  clear hx s1 s2
  generalize g l 0 = a at *
  generalize g l 1 = b at *
  generalize g l 2 = c at *
  generalize g l 3 = d at *
  by_cases hc : 194 <= a
  ·have e0 : need a = 2 := by unfold need; omega
   have e2 : lo2 a = 128 := by unfold lo2; omega
   have e3 : hi2 a = 191 := by unfold hi2; omega
   rcases (show k = 1 ∨ k = 2 by omega) with rfl | rfl
   ·have hm := mm_one (n := n) (b := b) (c := c) (d := d) (show need a ≠ 0 by omega)
    simp only [e1, true_and, false_or, if_false, Nat.lt_irrefl]
    omega
   ·have hm := mm_two (n := n) (b := b) (c := c) (d := d) (show need a ≠ 0 by omega) (by omega)
    simp only [e1, true_and, false_or, Nat.reduceLT, if_true]
    omega
  ·have e0 : need a = 0 := by unfold need; omega
   rcases (show k = 1 ∨ k = 2 by omega) with rfl | rfl
   ·simp only [e1, true_and, false_or, if_false, Nat.lt_irrefl]
    omega
   ·simp only [e1, true_and, false_or, Nat.reduceLT, if_true]
    omega
 ·constructor
  ·rintro ⟨c1, -, -⟩
   unfold cls at c1
   omega
  ·rintro ⟨c1, -⟩
   unfold need at c1
   omega
theorem bg_three (n k : Nat) (l : List Int) (h1 : 1 <= k) (h2 : k <= 3) (hn : k <= n) :
 (cls 3 (g l 0) /\ okC k l 2 /\ room 3 (spLo k l (base (g l 0)) 2) (spHi k l (base (g l 0)) 2)) ↔ (3 = need (g l 0) /\ (k : Int) <= mm n (g l 0) (g l 1) (g l 2) (g l 3)) := by
 rw [okC_three k l 2 (by omega), room_three]
 obtain ⟨s1, s2⟩ := sp_two k l (base (g l 0))
 obtain ⟨s3, s4⟩ := sp_three k l (base (g l 0))
 by_cases hr : 224 <= g l 0 /\ g l 0 < 240
 ·have hx : base (g l 0) = g l 0 - 224 := by unfold base; omega
  have e1 : cls 3 (g l 0) := by unfold cls; omega
  rw [s3, s4, s1, s2, hx]
  clear hx s1 s2 s3 s4
  generalize g l 0 = a at *
  generalize g l 1 = b at *
  generalize g l 2 = c at *
  generalize g l 3 = d at *
  have e0 : need a = 3 := by unfold need; omega
  have e2 : (a = 224 /\ lo2 a = 160) ∨ (a ≠ 224 /\ lo2 a = 128) := by unfold lo2; omega
  have e3 : (a = 237 /\ hi2 a = 159) ∨ (a ≠ 237 /\ hi2 a = 191) := by unfold hi2; omega
  rcases (show k = 1 ∨ k = 2 ∨ k = 3 by omega) with rfl | rfl | rfl
  ·have hm := mm_one (n := n) (b := b) (c := c) (d := d) (show need a ≠ 0 by omega)
   simp only [e1, true_and, false_or, if_false, Nat.lt_irrefl, Nat.reduceLT]
   omega
  ·have hm := mm_two (n := n) (b := b) (c := c) (d := d) (show need a ≠ 0 by omega) (by omega)
   simp only [e1, true_and, false_or, Nat.reduceLT, if_true, if_false, Nat.lt_irrefl]
   omega
  ·have hm := mm_three (n := n) (b := b) (c := c) (d := d) (Or.inl e0) (by omega)
   simp only [e1, true_and, false_or, Nat.reduceLT, if_true]
   omega
 ·constructor
  ·rintro ⟨c1, -, -⟩
   unfold cls at c1
   omega
  ·rintro ⟨c1, -⟩
   unfold need at c1
   omega
theorem bg_four (n k : Nat) (l : List Int) (h1 : 1 <= k) (h2 : k <= 4) (hn : k <= n) :
 (cls 4 (g l 0) /\ okC k l 3 /\ room 4 (spLo k l (base (g l 0)) 3) (spHi k l (base (g l 0)) 3)) ↔ (4 = need (g l 0) /\ (k : Int) <= mm n (g l 0) (g l 1) (g l 2) (g l 3)) := by
 rw [okC_three k l 3 (by omega), room_four]
 obtain ⟨s1, s2⟩ := sp_two k l (base (g l 0))
 obtain ⟨s3, s4⟩ := sp_three k l (base (g l 0))
 obtain ⟨s5, s6⟩ := sp_four k l (base (g l 0))
 by_cases hr : 240 <= g l 0 /\ g l 0 < 248
 ·have hx : base (g l 0) = g l 0 - 240 := by unfold base; omega
  have e1 : cls 4 (g l 0) := by unfold cls; omega
  rw [s5, s6, s3, s4, s1, s2, hx]
  clear hx s1 s2 s3 s4 s5 s6
  generalize g l 0 = a at *
  generalize g l 1 = b at *
  generalize g l 2 = c at *
  generalize g l 3 = d at *
  by_cases hc : a < 245
  ·have e0 : need a = 4 := by unfold need; omega
   have e2 : (a = 240 /\ lo2 a = 144) ∨ (a ≠ 240 /\ lo2 a = 128) := by unfold lo2; omega
   have e3 : (a = 244 /\ hi2 a = 143) ∨ (a ≠ 244 /\ hi2 a = 191) := by unfold hi2; omega
   rcases (show k = 1 ∨ k = 2 ∨ k = 3 ∨ k = 4 by omega) with rfl | rfl | rfl | rfl
   ·have hm := mm_one (n := n) (b := b) (c := c) (d := d) (show need a ≠ 0 by omega)
    simp only [e1, true_and, false_or, if_false, Nat.lt_irrefl, Nat.reduceLT]
    omega
   ·have hm := mm_two (n := n) (b := b) (c := c) (d := d) (show need a ≠ 0 by omega) (by omega)
    simp only [e1, true_and, false_or, Nat.reduceLT, if_true, if_false, Nat.lt_irrefl]
    omega
   ·have hm := mm_three (n := n) (b := b) (c := c) (d := d) (Or.inr e0) (by omega)
    simp only [e1, true_and, false_or, Nat.reduceLT, if_true, if_false, Nat.lt_irrefl]
    omega
   ·have hm := mm_four (n := n) (b := b) (c := c) (d := d) e0 (by omega)
    simp only [e1, true_and, false_or, Nat.reduceLT, if_true]
    omega
  ·have e0 : need a = 0 := by unfold need; omega
   rcases (show k = 1 ∨ k = 2 ∨ k = 3 ∨ k = 4 by omega) with rfl | rfl | rfl | rfl
   all_goals
    simp only [e1, true_and, false_or, if_false, if_true, Nat.lt_irrefl, Nat.reduceLT]
    omega
 ·constructor
  ·rintro ⟨c1, -, -⟩
   unfold cls at c1
   omega
  ·rintro ⟨c1, -⟩
   unfold need at c1
   omega
end Ru
end Go.Proofs.YtkcabpjfgbghjaaGreatDoor
