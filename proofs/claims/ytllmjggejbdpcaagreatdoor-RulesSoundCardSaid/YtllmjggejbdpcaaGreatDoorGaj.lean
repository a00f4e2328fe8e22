/-
  The walk of a sheet's rule.
-/
import Derived.Test.YtllmjggejbdpcaaGreatDoorGai
import Derived.Test.YtllmjggejbdpcaaGreatDoorGaf
import Derived.Deep.OwnRows
import Derived.Laws.MakeOwn
import Derived.Test.YtllmjggejbdpcaaGreatDoorGag
import Derived.ScopeJumps
import Derived.LoopTactic
import Derived.IntWalk
import Derived.Deep.DeepCutAuto
import Derived.Test.YtllmjggejbdpcaaGreatDoorGae
import Derived.Test.YtllmjggejbdpcaaGreatDoorGad
set_option maxHeartbeats 16000000
set_option maxRecDepth 100000
namespace Go.Proofs.YtllmjggejbdpcaaGreatDoor
open Go.RowKit
def ToldRu (o : Option Rl.Rule) (w : World) (e : Ending) (w' : World) : Prop :=
 ∃ (r : Rl.Rule) (b : Bool) (v1 v2 v3 : Value), e = .returned (.tuple #[.agg #[.int .i64 r.1, v1, v2, v3], .bool b]) /\ Rl.SlQ (some 70) 3 Rl.TokQ w' r.2.1 [v1] /\ Rl.SlQ (some 42) 3 (Rl.DecQ true) w' r.2.2.1 [v2] /\ Rl.SlQ (some 49) 2 (Rl.MarQ true) w' r.2.2.2 [v3] /\ Below w.heap.size w w' /\ o = if b = true then some r else none
abbrev zeroRul : Obj := .cells #[.int .i64 0, .slice none 0 0, .slice none 0 0, .slice none 0 0] 47
theorem slq_nil {α : Type} {oE : Option TypeId} {sz : Nat} {Ra : World -> α -> List Value -> Prop} {W : World} : Rl.SlQ oE sz Ra W ([] : List α) [.slice none 0 0] := ⟨none, 0, rfl, Nat.le_refl _, Rl.cells_nil, fun _ _ _ _ hA => by cases hA⟩
theorem set_rul {w : World} {k : Nat} {a b c d : Value} {E : TypeId} (h : w.heap[k]? = some (.cells #[a, b, c, d] E (0, 0))) (x y z u : Value) :
 ((((w.setCell ⟨k, 0, none⟩ x).setCell ⟨k, 1, none⟩ y).setCell ⟨k, 2, none⟩ z).setCell ⟨k, 3, none⟩ u).heap[k]? = some (.cells #[x, y, z, u] E (0, 0)) /\ Rl.Only E (some k) w ((((w.setCell ⟨k, 0, none⟩ x).setCell ⟨k, 1, none⟩ y).setCell ⟨k, 2, none⟩ z).setCell ⟨k, 3, none⟩ u) := by
 have h2 : (w.setCell ⟨k, 0, none⟩ x).heap[k]? = some (.cells #[x, b, c, d] E (0, 0)) := by simp [World.setCell, Array.getElem?_modify, h]
 have h3 : ((w.setCell ⟨k, 0, none⟩ x).setCell ⟨k, 1, none⟩ y).heap[k]? = some (.cells #[x, y, c, d] E (0, 0)) := by simp [World.setCell, Array.getElem?_modify, h]
 have h4 : (((w.setCell ⟨k, 0, none⟩ x).setCell ⟨k, 1, none⟩ y).setCell ⟨k, 2, none⟩ z).heap[k]? = some (.cells #[x, y, z, d] E (0, 0)) := by simp [World.setCell, Array.getElem?_modify, h]
 exact ⟨by simp [World.setCell, Array.getElem?_modify, h], (((Rl.set_only h x).trans (Rl.set_only h2 y)).trans (Rl.set_only h3 z)).trans (Rl.set_only h4 u)⟩
theorem set4_belowK {w w1 : World} {k : Nat} (h : Below w.heap.size w w1) (hk : w.heap.size <= k) (x y z u : Value) : Below w.heap.size w ((((w1.setCell ⟨k, 0, none⟩ x).setCell ⟨k, 1, none⟩ y).setCell ⟨k, 2, none⟩ z).setCell ⟨k, 3, none⟩ u) :=
 (((h.setCell hk _).setCell hk _).setCell hk _).setCell hk _
def Rl.ruleO (sd : List Tk.Tok -> Bool) (ts : List Tk.Tok) (a e : Nat) : Option Rl.Rule :=
 if Rl.brB (Tk.tk ts e) = true /\ (Rl.isAt ts a = true -> Ru.lowS (Tk.tk ts a).2.1 = Rl.pageS) /\ sd (Rl.trim (Rl.sub ts (if Rl.isAt ts a = true then a + 1 else a) e)) = true then
  some ((if Rl.isAt ts a = true then 2 else 1), Rl.trim (Rl.sub ts (if Rl.isAt ts a = true then a + 1 else a) e), (Rl.blk sd ts (Rl.isAt ts a) (e + 1) (Ru.g (Ns.ends ts) e).toNat).1, (Rl.blk sd ts (Rl.isAt ts a) (e + 1) (Ru.g (Ns.ends ts) e).toNat).2)
 else none
theorem page_test2 (t : ByteArray) : (t.toList == [112, 97, 103, 101]) = decide (t = Rl.pageS) := by
 rw [<- str_same, show Rl.pageS.toList = [112, 97, 103, 101] from by unfold Rl.pageS; rw [Lib.toList_data]]
theorem srule_any (sd : List Tk.Tok -> Bool) (hsd : SdK sd) (ts : List Tk.Tok) (hF : Pr.FairB ts) (hwf : Pr.Wf ts) (A C : Option Addr) (ca cc : Nat) (a e : Nat) (hal : a < ts.length) (hae : a <= e) (hel : e < ts.length) (hat : Rl.isAt ts a = true -> a < e) (w : World) (h : Sh ts A ca C w) (hT : PTab w.heap.size w) (hB : BTab w.heap.size w) :
 Calls Tryz.prog 54 #[shV A ts.length ca C (Ns.ends ts).length cc, .int .i64 a, .int .i64 e] w (ToldRu (Rl.ruleO sd ts a e) w) := by
 have HV : Hid (Rl.ruleO sd ts a e = if Rl.brB (Tk.tk ts e) = true /\ (Rl.isAt ts a = true -> Ru.lowS (Tk.tk ts a).2.1 = Rl.pageS) /\ sd (Rl.trim (Rl.sub ts (if Rl.isAt ts a = true then a + 1 else a) e)) = true then
  some ((if Rl.isAt ts a = true then 2 else 1), Rl.trim (Rl.sub ts (if Rl.isAt ts a = true then a + 1 else a) e), (Rl.blk sd ts (Rl.isAt ts a) (e + 1) (Ru.g (Ns.ends ts) e).toNat).1, (Rl.blk sd ts (Rl.isAt ts a) (e + 1) (Ru.g (Ns.ends ts) e).toNat).2)
  else none) := Lib.hid rfl
 generalize Rl.ruleO sd ts a e = res at *
 obtain ⟨W0, hW⟩ : ∃ W0, W0 = (w.alloc (.cells #[.slice A ts.length ca, .slice C (Ns.ends ts).length cc] 58)).alloc zeroRul := ⟨_, rfl⟩
 obtain ⟨hb0, k0, k1, hs1⟩ := two_new w (.cells #[.slice A ts.length ca, .slice C (Ns.ends ts).length cc] 58) zeroRul
 rw [<- hW] at hb0 k0 k1 hs1
 obtain ⟨p0, p1⟩ := sh_cells k0
 have hs0 : w.heap.size < W0.heap.size := by omega
 have HB0 := Lib.hid hb0
 have HK0 := Lib.hid k1
 have HW := Lib.hid hW.symm
 have HS := Lib.hid (h.next hb0)
 have HT := Lib.hid (hT.next hb0)
 have HBT := Lib.hid (hB.next hb0)
 have hm := hF.1
 have CO : Hid (∀ W, Calls Tryz.prog 99 #[.agg #[.int .i64 (Tk.tk ts e).1, .string (Tk.tk ts e).2.1, .int .i64 (Tk.tk ts e).2.2]] W (Bo (Rl.brB (Tk.tk ts e)) W)) := Lib.hid fun W => opensBlock_any _ W
 have CN : Hid (∀ W, Below W0.heap.size W0 W -> Calls Tryz.prog 100 #[.agg #[.slice A ts.length ca, .slice C (Ns.ends ts).length cc], .int .i64 a] W (Sg (Ru.lowS (Tk.tk ts a).2.1) W)) := Lib.hid fun W hb => sname_any ts hF A C ca cc a hal W (HS.out.next hb)
 obtain ⟨b, off, rfl, hbb, hp⟩ := HS.out.hts (by omega)
 obtain ⟨q0, q1, q2⟩ := hp e hel
 obtain ⟨r0, _, _⟩ := hp a hal
 have hel2 : (e : Int) < (ts.length : Int) := by omega
 have hal2 : (a : Int) < (ts.length : Int) := by omega
 clear hb0 k0 k1 hW h hT hB hp
 unfold shV
 cases hbr : Rl.brB (Tk.tk ts e)
 ·rw [hbr] at CO
  rw [if_neg (fun c => by rw [hbr] at c; cases c.1)] at HV
  clear hbr hsd hF hwf hat
  generalize Tk.tk ts e = u at *
  go_enter Tryz.func54, Tryz.ntmps54
  go_upto_region 1 with fail
  rw [HW.out]
  clear HW
  go_wp2_with (go_at_call 99; ((with_reducible refine (CO.out _).mono ?_); rintro e1 w1 ⟨rfl, b1⟩; have HB1 := Lib.hid b1; have S10 := (HB1.out.cell (p := ⟨w.heap.size, 0, none⟩) hs0).trans p0; have S11 := (HB1.out.cell (p := ⟨w.heap.size, 1, none⟩) hs0).trans p1; have HK1 := Lib.hid (below_block HB1.out HK0.out); obtain ⟨⟨d10, d11, d12, d13⟩, f10, f11, f12, f13⟩ := Rl.four_cells HK1.out; have X1 := (b1.cell (p := ⟨b, off + a * 3, none⟩) hbb).trans r0; clear b1))
  obtain ⟨hk, _⟩ := set_rul HK1.out (.int .i64 0) (.slice none 0 0) (.slice none 0 0) (.slice none 0 0)
  have hbf := set4_belowK (below_next HB0.out HB1.out) (Nat.le_succ _) (.int .i64 0) (.slice none 0 0) (.slice none 0 0) (.slice none 0 0)
  generalize ((((w1.setCell ⟨w.heap.size + 1, 0, none⟩ (.int .i64 0)).setCell ⟨w.heap.size + 1, 1, none⟩ (.slice none 0 0)).setCell ⟨w.heap.size + 1, 2, none⟩ (.slice none 0 0)).setCell ⟨w.heap.size + 1, 3, none⟩ (.slice none 0 0)) = Wf at hk hbf ⊢
  obtain ⟨⟨z0, z1, z2, z3⟩, _⟩ := Rl.four_cells hk
  exact bodyPost_ret (v := .tuple #[.agg #[.int .i64 0, .slice none 0 0, .slice none 0 0, .slice none 0 0], .bool false]) (by simp [results, Tryz.results54, go_sem, z0, z1, z2, z3]) rfl ⟨(0, [], [], []), false, _, _, _, rfl, slq_nil, slq_nil, slq_nil, hbf, by rw [HV.out]; rfl⟩
 ·rw [hbr] at CO
  have hO := Rl.brB_opens hbr
  have hge := Rl.ends_opens hel hO
  have CBl : Hid (∀ (page : Bool) (W : World), Below W0.heap.size W0 W -> Calls Tryz.prog 103 #[.agg #[.slice (some ⟨b, off, none⟩) ts.length ca, .slice C (Ns.ends ts).length cc], .int .i64 e, .bool page] W (ToldB (Rl.blk sd ts page (e + 1) (Ru.g (Ns.ends ts) e).toNat) W)) := Lib.hid fun page W hb => sblock_any sd hsd ts hF hwf (some ⟨b, off, none⟩) C ca cc _ page e (Nat.le_refl _) hel hO W (HS.out.next hb) (HT.out.next hb) (HBT.out.next hb)
  clear hO hge
  by_cases h4 : (Tk.tk ts a).1 = 4
  ·have hA4 : Rl.isAt ts a = true := decide_eq_true h4
   have hlt := hat hA4
   simp only [hA4, if_true] at HV
   rw [h4] at r0
   by_cases hpg : Ru.lowS (Tk.tk ts a).2.1 = Rl.pageS
   ·have ht : ((Ru.lowS (Tk.tk ts a).2.1).toList == [112, 97, 103, 101]) = true := by rw [page_test2]; exact decide_eq_true hpg
    have hbd2 := Rl.cut_bd (ts := ts) (a := a + 1) (b := e) (by omega)
    have HCT := Lib.hid (Rl.cut_trim (ts := ts) (a := a + 1) (b := e) (by omega) (by omega))
    have HMem : Hid (∀ t ∈ Rl.trim (Rl.sub ts (a + 1) e), t ∈ ts) := Lib.hid fun t ht => sub_mem (trim_mem ht)
    have HLen : Hid ((Rl.trim (Rl.sub ts (a + 1) e)).length <= ts.length) := Lib.hid (Nat.le_trans (trim_len _) sub_le)
    have CT2 : Hid (∀ W, Below W0.heap.size W0 W -> Calls Tryz.prog 102 #[.slice (some ⟨b, off, none⟩) ts.length ca, .int .i64 ((a : Int) + 1), .int .i64 e] W (Tw (Ns.trA ts e (a + 1)) (Ns.trB ts (Ns.trA ts e (a + 1)) e) W)) := Lib.hid fun W hb => by
     have := ntrim_any ts (by omega) (some ⟨b, off, none⟩) ca (a + 1) e (by omega) (by omega) W (HS.out.next hb).hts
     rwa [show ((a + 1 : Nat) : Int) = (a : Int) + 1 by omega] at this
    have CP : Hid (∀ W, Below W0.heap.size W0 W -> Calls Tryz.prog 101 #[.agg #[.slice (some ⟨b, off, none⟩) ts.length ca, .slice C (Ns.ends ts).length cc], .int .i64 (Ns.trA ts e (a + 1)), .int .i64 (Ns.trB ts (Ns.trA ts e (a + 1)) e)] W (ToldT (Rl.trim (Rl.sub ts (a + 1) e)) W)) := Lib.hid fun W hb => by
     have := spart_any ts (by omega) (some ⟨b, off, none⟩) C ca cc (Ns.trA ts e (a + 1)) (Ns.trB ts (Ns.trA ts e (a + 1)) e) hbd2.2.1 (by omega) W (HS.out.next hb)
     rwa [HCT.out] at this
    clear HCT hbd2
    generalize Ns.trB ts (Ns.trA ts e (a + 1)) e = c2' at *
    generalize Ns.trA ts e (a + 1) = c1' at *
    generalize Rl.trim (Rl.sub ts (a + 1) e) = v at *
    have CSo : Hid (∀ (A : Option Addr) (c : Nat) (W : World), v.length <= c -> Ts W W.heap.size A v -> PTab W.heap.size W -> Calls Tryz.prog 19 #[.slice A v.length c] W (Bo (sd v) W)) := Lib.hid fun A c W hc hA hT => hsd v (fair_sub hF HLen.out HMem.out) (wf_sub hwf HMem.out) A c W hc hA hT
    clear HMem HLen hsd
    have CB2 := Lib.hid (CBl.out true)
    clear CBl
    generalize Rl.blk sd ts true (e + 1) (Ru.g (Ns.ends ts) e).toNat = dm at *
    generalize sd v = so at *
    have hadd : IntKind.i64.wrap ((a : Int) + 1) = (a : Int) + 1 := IntWalk.i64_in _ (by omega)
    have HV2 : Hid (res = if so = true then some (2, v, dm.1, dm.2) else none) := Lib.hid (by
     rw [HV.out]
     cases so
     ·rw [if_neg (fun c => by cases c.2.2)]; rfl
     ·rw [if_pos ⟨hbr, fun _ => hpg, rfl⟩]; rfl)
    clear hbr hpg hA4 h4 HV hat hwf hF
    generalize Ru.lowS (Tk.tk ts a).2.1 = lo at *
    generalize Tk.tk ts e = u at *
    go_enter Tryz.func54, Tryz.ntmps54
    go_upto_region 1 with fail
    rw [HW.out]
    clear HW
    go_upto_region 8 with (first | (go_at_call 99; ((with_reducible refine (CO.out _).mono ?_); rintro e1 w1 ⟨rfl, b1⟩; have HB1 := Lib.hid b1; have S10 := (HB1.out.cell (p := ⟨w.heap.size, 0, none⟩) hs0).trans p0; have S11 := (HB1.out.cell (p := ⟨w.heap.size, 1, none⟩) hs0).trans p1; have HK1 := Lib.hid (below_block HB1.out HK0.out); obtain ⟨⟨d10, d11, d12, d13⟩, f10, f11, f12, f13⟩ := Rl.four_cells HK1.out; have X1 := (b1.cell (p := ⟨b, off + a * 3, none⟩) hbb).trans r0; clear b1)) | (go_at_call 100; ((with_reducible refine (CN.out _ HB1.out).mono ?_); rintro e2 w2 ⟨rfl, b2⟩; have HB2 := Lib.hid (HB1.out.trans (b2.mono HB1.out.size)); have S20 := (HB2.out.cell (p := ⟨w.heap.size, 0, none⟩) hs0).trans p0; have S21 := (HB2.out.cell (p := ⟨w.heap.size, 1, none⟩) hs0).trans p1; have HK2 := Lib.hid (below_block HB2.out HK0.out); obtain ⟨⟨d20, d21, d22, d23⟩, f20, f21, f22, f23⟩ := Rl.four_cells HK2.out; clear b2)))
    go_region_held3 (fun w' => w'.cell? ⟨w.heap.size, 0, none⟩ = some (.slice (some ⟨b, off, none⟩) ts.length ca) /\ w'.cell? ⟨w.heap.size, 1, none⟩ = some (.slice C (Ns.ends ts).length cc))
     (first | go_keep | (go_split_ands; exact ⟨(hb9.cell (p := ⟨w.heap.size, 0, none⟩) hs0).trans (by assumption), (hb9.cell (p := ⟨w.heap.size, 1, none⟩) hs0).trans (by assumption)⟩))
     (first | (go_at_call 102; refine (CT2.out _ HB2.out.drew).mono ?_; rintro e8 w8 ⟨rfl, b8⟩; have hb9 : Below W0.heap.size W0 w8 := HB2.out.drew.trans (b8.mono HB2.out.size); have HB8 := Lib.hid hb9; clear b8) | (go_at_call 101; refine (CP.out _ HB8.out).mono ?_; rintro e3 w3 ⟨A3, n3, rfl, hc3, T3, b3⟩; have hb9 : Below W0.heap.size W0 w3 := HB8.out.trans (b3.mono HB8.out.size); have HB3 := Lib.hid hb9; have HT3 := Lib.hid T3; have HA3 := Lib.hid T3.1; clear b3 T3))
    cases so
    ·have S30 := (HB3.out.cell (p := ⟨w.heap.size, 0, none⟩) hs0).trans p0; have S31 := (HB3.out.cell (p := ⟨w.heap.size, 1, none⟩) hs0).trans p1; have HK3 := Lib.hid (below_block HB3.out HK0.out); obtain ⟨⟨d30, d31, d32, d33⟩, f30, f31, f32, f33⟩ := Rl.four_cells HK3.out
     go_wp2_with (go_at_call 19; ((with_reducible refine (CSo.out _ _ _ hc3 HA3.out (HT.out.next HB3.out)).mono ?_); rintro e5 w5 ⟨rfl, b5⟩; have HB5 := Lib.hid (HB3.out.trans (b5.mono HB3.out.size)); have HT5 := Lib.hid (HT3.out.next b5); have S50 := (HB5.out.cell (p := ⟨w.heap.size, 0, none⟩) hs0).trans p0; have S51 := (HB5.out.cell (p := ⟨w.heap.size, 1, none⟩) hs0).trans p1; have HK5 := Lib.hid (below_block HB5.out HK0.out); obtain ⟨⟨d50, d51, d52, d53⟩, f50, f51, f52, f53⟩ := Rl.four_cells HK5.out; clear b5))
     obtain ⟨hk, _⟩ := set_rul HK5.out (.int .i64 0) (.slice none 0 0) (.slice none 0 0) (.slice none 0 0)
     have hbf := set4_belowK (below_next HB0.out HB5.out) (Nat.le_succ _) (.int .i64 0) (.slice none 0 0) (.slice none 0 0) (.slice none 0 0)
     generalize ((((w5.setCell ⟨w.heap.size + 1, 0, none⟩ (.int .i64 0)).setCell ⟨w.heap.size + 1, 1, none⟩ (.slice none 0 0)).setCell ⟨w.heap.size + 1, 2, none⟩ (.slice none 0 0)).setCell ⟨w.heap.size + 1, 3, none⟩ (.slice none 0 0)) = Wf at hk hbf ⊢
     obtain ⟨⟨z0, z1, z2, z3⟩, _⟩ := Rl.four_cells hk
     exact bodyPost_ret (v := .tuple #[.agg #[.int .i64 0, .slice none 0 0, .slice none 0 0, .slice none 0 0], .bool false]) (by simp [results, Tryz.results54, go_sem, z0, z1, z2, z3]) rfl ⟨(0, [], [], []), false, _, _, _, rfl, slq_nil, slq_nil, slq_nil, hbf, by rw [HV2.out]; rfl⟩
    ·have S30 := (HB3.out.cell (p := ⟨w.heap.size, 0, none⟩) hs0).trans p0; have S31 := (HB3.out.cell (p := ⟨w.heap.size, 1, none⟩) hs0).trans p1; have HK3 := Lib.hid (below_block HB3.out HK0.out); obtain ⟨⟨d30, d31, d32, d33⟩, f30, f31, f32, f33⟩ := Rl.four_cells HK3.out
     go_wp2_with (first | (go_at_call 19; ((with_reducible refine (CSo.out _ _ _ hc3 HA3.out (HT.out.next HB3.out)).mono ?_); rintro e5 w5 ⟨rfl, b5⟩; have HB5 := Lib.hid (HB3.out.trans (b5.mono HB3.out.size)); have HT5 := Lib.hid (HT3.out.next b5); have S50 := (HB5.out.cell (p := ⟨w.heap.size, 0, none⟩) hs0).trans p0; have S51 := (HB5.out.cell (p := ⟨w.heap.size, 1, none⟩) hs0).trans p1; have HK5 := Lib.hid (below_block HB5.out HK0.out); obtain ⟨⟨d50, d51, d52, d53⟩, f50, f51, f52, f53⟩ := Rl.four_cells HK5.out; clear b5)) | (go_at_call 103; ((with_reducible refine (CB2.out _ HB5.out).mono ?_); rintro e6 w6 ⟨A1, c1, A2, c2, rfl, hc1, hc2, C1, Y1, _, C2, Y2, b6⟩; have HB6 := Lib.hid (HB5.out.trans (b6.mono HB5.out.size)); have HT6 := Lib.hid (HT5.out.next b6); have HC1 := Lib.hid C1; have HY1 := Lib.hid Y1; have HC2 := Lib.hid C2; have HY2 := Lib.hid Y2; have S60 := (HB6.out.cell (p := ⟨w.heap.size, 0, none⟩) hs0).trans p0; have S61 := (HB6.out.cell (p := ⟨w.heap.size, 1, none⟩) hs0).trans p1; have HK6 := Lib.hid (below_block HB6.out HK0.out); obtain ⟨⟨d60, d61, d62, d63⟩, f60, f61, f62, f63⟩ := Rl.four_cells HK6.out; clear b6 C1 Y1 C2 Y2)))
     obtain ⟨hk, ho⟩ := set_rul HK6.out (.int .i64 2) (.slice A3 v.length n3) (.slice A1 dm.1.length c1) (.slice A2 dm.2.length c2)
     have hbf := set4_belowK (below_next HB0.out HB6.out) (Nat.le_succ _) (.int .i64 2) (.slice A3 v.length n3) (.slice A1 dm.1.length c1) (.slice A2 dm.2.length c2)
     have g1 : Rl.SlQ (some 70) 3 Rl.TokQ w6 v [.slice A3 v.length n3] := ⟨A3, n3, rfl, hc3, Rl.cells_ts HT6.out.1, HT6.out.2⟩
     have g2 : Rl.SlQ (some 42) 3 (Rl.DecQ true) w6 dm.1 [.slice A1 dm.1.length c1] := ⟨A1, c1, rfl, hc1, HC1.out, HY1.out⟩
     have g3 : Rl.SlQ (some 49) 2 (Rl.MarQ true) w6 dm.2 [.slice A2 dm.2.length c2] := ⟨A2, c2, rfl, hc2, HC2.out, HY2.out⟩
     have g1' := Rl.kT_sl (E := 47) (by decide) Rl.kT_tok _ _ _ _ _ g1 ho
     have g2' := Rl.kT_sl (E := 47) (by decide) (Rl.kT_dec2 (by decide)) _ _ _ _ _ g2 ho
     have g3' := Rl.kT_sl (E := 47) (by decide) (Rl.kT_mar2 (by decide) (by decide)) _ _ _ _ _ g3 ho
     clear g1 g2 g3 ho
     generalize ((((w6.setCell ⟨w.heap.size + 1, 0, none⟩ (.int .i64 2)).setCell ⟨w.heap.size + 1, 1, none⟩ (.slice A3 v.length n3)).setCell ⟨w.heap.size + 1, 2, none⟩ (.slice A1 dm.1.length c1)).setCell ⟨w.heap.size + 1, 3, none⟩ (.slice A2 dm.2.length c2)) = Wf at hk hbf g1' g2' g3' ⊢
     obtain ⟨⟨z0, z1, z2, z3⟩, _⟩ := Rl.four_cells hk
     exact bodyPost_ret (v := .tuple #[.agg #[.int .i64 2, .slice A3 v.length n3, .slice A1 dm.1.length c1, .slice A2 dm.2.length c2], .bool true]) (by simp [results, Tryz.results54, go_sem, z0, z1, z2, z3]) rfl ⟨(2, v, dm.1, dm.2), true, _, _, _, rfl, g1', g2', g3', hbf, by rw [HV2.out]; rfl⟩
   ·have ht : ((Ru.lowS (Tk.tk ts a).2.1).toList == [112, 97, 103, 101]) = false := by rw [page_test2]; exact decide_eq_false hpg
    rw [if_neg (fun c => hpg (c.2.1 trivial))] at HV
    clear hbr hpg hA4 h4 hsd hF hwf hat CBl
    generalize Ru.lowS (Tk.tk ts a).2.1 = lo at *
    generalize Tk.tk ts e = u at *
    go_enter Tryz.func54, Tryz.ntmps54
    go_upto_region 1 with fail
    rw [HW.out]
    clear HW
    go_wp2_with (first | (go_at_call 99; ((with_reducible refine (CO.out _).mono ?_); rintro e1 w1 ⟨rfl, b1⟩; have HB1 := Lib.hid b1; have S10 := (HB1.out.cell (p := ⟨w.heap.size, 0, none⟩) hs0).trans p0; have S11 := (HB1.out.cell (p := ⟨w.heap.size, 1, none⟩) hs0).trans p1; have HK1 := Lib.hid (below_block HB1.out HK0.out); obtain ⟨⟨d10, d11, d12, d13⟩, f10, f11, f12, f13⟩ := Rl.four_cells HK1.out; have X1 := (b1.cell (p := ⟨b, off + a * 3, none⟩) hbb).trans r0; clear b1)) | (go_at_call 100; ((with_reducible refine (CN.out _ HB1.out).mono ?_); rintro e2 w2 ⟨rfl, b2⟩; have HB2 := Lib.hid (HB1.out.trans (b2.mono HB1.out.size)); have S20 := (HB2.out.cell (p := ⟨w.heap.size, 0, none⟩) hs0).trans p0; have S21 := (HB2.out.cell (p := ⟨w.heap.size, 1, none⟩) hs0).trans p1; have HK2 := Lib.hid (below_block HB2.out HK0.out); obtain ⟨⟨d20, d21, d22, d23⟩, f20, f21, f22, f23⟩ := Rl.four_cells HK2.out; clear b2)))
    obtain ⟨hk, _⟩ := set_rul HK2.out (.int .i64 0) (.slice none 0 0) (.slice none 0 0) (.slice none 0 0)
    have hbf := set4_belowK (below_next HB0.out HB2.out) (Nat.le_succ _) (.int .i64 0) (.slice none 0 0) (.slice none 0 0) (.slice none 0 0)
    generalize ((((w2.setCell ⟨w.heap.size + 1, 0, none⟩ (.int .i64 0)).setCell ⟨w.heap.size + 1, 1, none⟩ (.slice none 0 0)).setCell ⟨w.heap.size + 1, 2, none⟩ (.slice none 0 0)).setCell ⟨w.heap.size + 1, 3, none⟩ (.slice none 0 0)) = Wf at hk hbf ⊢
    obtain ⟨⟨z0, z1, z2, z3⟩, _⟩ := Rl.four_cells hk
    exact bodyPost_ret (v := .tuple #[.agg #[.int .i64 0, .slice none 0 0, .slice none 0 0, .slice none 0 0], .bool false]) (by simp [results, Tryz.results54, go_sem, z0, z1, z2, z3]) rfl ⟨(0, [], [], []), false, _, _, _, rfl, slq_nil, slq_nil, slq_nil, hbf, by rw [HV.out]; rfl⟩
  ·have hA4 : Rl.isAt ts a = false := decide_eq_false h4
   have h4b : ((Tk.tk ts a).1 == 4) = false := beq_false_of_ne h4
   simp only [hA4, Bool.false_eq_true, if_false] at HV
   have hbd2 := Rl.cut_bd (ts := ts) (a := a) (b := e) (by omega)
   have HCT := Lib.hid (Rl.cut_trim (ts := ts) (a := a) (b := e) (by omega) (by omega))
   have HMem : Hid (∀ t ∈ Rl.trim (Rl.sub ts (a) e), t ∈ ts) := Lib.hid fun t ht => sub_mem (trim_mem ht)
   have HLen : Hid ((Rl.trim (Rl.sub ts (a) e)).length <= ts.length) := Lib.hid (Nat.le_trans (trim_len _) sub_le)
   have CT2 : Hid (∀ W, Below W0.heap.size W0 W -> Calls Tryz.prog 102 #[.slice (some ⟨b, off, none⟩) ts.length ca, .int .i64 ((a : Int)), .int .i64 e] W (Tw (Ns.trA ts e (a)) (Ns.trB ts (Ns.trA ts e (a)) e) W)) := Lib.hid fun W hb => by
    have := ntrim_any ts (by omega) (some ⟨b, off, none⟩) ca (a) e (by omega) (by omega) W (HS.out.next hb).hts
    exact this
   have CP : Hid (∀ W, Below W0.heap.size W0 W -> Calls Tryz.prog 101 #[.agg #[.slice (some ⟨b, off, none⟩) ts.length ca, .slice C (Ns.ends ts).length cc], .int .i64 (Ns.trA ts e (a)), .int .i64 (Ns.trB ts (Ns.trA ts e (a)) e)] W (ToldT (Rl.trim (Rl.sub ts (a) e)) W)) := Lib.hid fun W hb => by
    have := spart_any ts (by omega) (some ⟨b, off, none⟩) C ca cc (Ns.trA ts e (a)) (Ns.trB ts (Ns.trA ts e (a)) e) hbd2.2.1 (by omega) W (HS.out.next hb)
    rwa [HCT.out] at this
   clear HCT hbd2
   generalize Ns.trB ts (Ns.trA ts e (a)) e = c2' at *
   generalize Ns.trA ts e (a) = c1' at *
   generalize Rl.trim (Rl.sub ts (a) e) = v at *
   have CSo : Hid (∀ (A : Option Addr) (c : Nat) (W : World), v.length <= c -> Ts W W.heap.size A v -> PTab W.heap.size W -> Calls Tryz.prog 19 #[.slice A v.length c] W (Bo (sd v) W)) := Lib.hid fun A c W hc hA hT => hsd v (fair_sub hF HLen.out HMem.out) (wf_sub hwf HMem.out) A c W hc hA hT
   clear HMem HLen hsd
   have CB2 := Lib.hid (CBl.out false)
   clear CBl
   generalize Rl.blk sd ts false (e + 1) (Ru.g (Ns.ends ts) e).toNat = dm at *
   generalize sd v = so at *
   have HV2 : Hid (res = if so = true then some (1, v, dm.1, dm.2) else none) := Lib.hid (by
    rw [HV.out]
    cases so
    ·rw [if_neg (fun c => by cases c.2.2)]; rfl
    ·rw [if_pos ⟨hbr, fun c => c.elim, rfl⟩]; rfl)
   clear hbr hA4 h4 HV hat hwf hF CN
   generalize (Tk.tk ts a).1 = ka at *
   generalize Tk.tk ts e = u at *
   go_enter Tryz.func54, Tryz.ntmps54
   go_upto_region 1 with fail
   rw [HW.out]
   clear HW
   go_upto_region 8 with (go_at_call 99; ((with_reducible refine (CO.out _).mono ?_); rintro e1 w1 ⟨rfl, b1⟩; have HB1 := Lib.hid b1; have S10 := (HB1.out.cell (p := ⟨w.heap.size, 0, none⟩) hs0).trans p0; have S11 := (HB1.out.cell (p := ⟨w.heap.size, 1, none⟩) hs0).trans p1; have HK1 := Lib.hid (below_block HB1.out HK0.out); obtain ⟨⟨d10, d11, d12, d13⟩, f10, f11, f12, f13⟩ := Rl.four_cells HK1.out; have X1 := (b1.cell (p := ⟨b, off + a * 3, none⟩) hbb).trans r0; clear b1))
   go_region_held3 (fun w' => w'.cell? ⟨w.heap.size, 0, none⟩ = some (.slice (some ⟨b, off, none⟩) ts.length ca) /\ w'.cell? ⟨w.heap.size, 1, none⟩ = some (.slice C (Ns.ends ts).length cc))
    (first | go_keep | (go_split_ands; exact ⟨(hb9.cell (p := ⟨w.heap.size, 0, none⟩) hs0).trans (by assumption), (hb9.cell (p := ⟨w.heap.size, 1, none⟩) hs0).trans (by assumption)⟩))
    (first | (go_at_call 102; refine (CT2.out _ HB1.out.drew).mono ?_; rintro e8 w8 ⟨rfl, b8⟩; have hb9 : Below W0.heap.size W0 w8 := HB1.out.drew.trans (b8.mono HB1.out.size); have HB8 := Lib.hid hb9; clear b8) | (go_at_call 101; refine (CP.out _ HB8.out).mono ?_; rintro e3 w3 ⟨A3, n3, rfl, hc3, T3, b3⟩; have hb9 : Below W0.heap.size W0 w3 := HB8.out.trans (b3.mono HB8.out.size); have HB3 := Lib.hid hb9; have HT3 := Lib.hid T3; have HA3 := Lib.hid T3.1; clear b3 T3))
   cases so
   ·have S30 := (HB3.out.cell (p := ⟨w.heap.size, 0, none⟩) hs0).trans p0; have S31 := (HB3.out.cell (p := ⟨w.heap.size, 1, none⟩) hs0).trans p1; have HK3 := Lib.hid (below_block HB3.out HK0.out); obtain ⟨⟨d30, d31, d32, d33⟩, f30, f31, f32, f33⟩ := Rl.four_cells HK3.out
    go_wp2_with (go_at_call 19; ((with_reducible refine (CSo.out _ _ _ hc3 HA3.out (HT.out.next HB3.out)).mono ?_); rintro e5 w5 ⟨rfl, b5⟩; have HB5 := Lib.hid (HB3.out.trans (b5.mono HB3.out.size)); have HT5 := Lib.hid (HT3.out.next b5); have S50 := (HB5.out.cell (p := ⟨w.heap.size, 0, none⟩) hs0).trans p0; have S51 := (HB5.out.cell (p := ⟨w.heap.size, 1, none⟩) hs0).trans p1; have HK5 := Lib.hid (below_block HB5.out HK0.out); obtain ⟨⟨d50, d51, d52, d53⟩, f50, f51, f52, f53⟩ := Rl.four_cells HK5.out; clear b5))
    obtain ⟨hk, _⟩ := set_rul HK5.out (.int .i64 0) (.slice none 0 0) (.slice none 0 0) (.slice none 0 0)
    have hbf := set4_belowK (below_next HB0.out HB5.out) (Nat.le_succ _) (.int .i64 0) (.slice none 0 0) (.slice none 0 0) (.slice none 0 0)
    generalize ((((w5.setCell ⟨w.heap.size + 1, 0, none⟩ (.int .i64 0)).setCell ⟨w.heap.size + 1, 1, none⟩ (.slice none 0 0)).setCell ⟨w.heap.size + 1, 2, none⟩ (.slice none 0 0)).setCell ⟨w.heap.size + 1, 3, none⟩ (.slice none 0 0)) = Wf at hk hbf ⊢
    obtain ⟨⟨z0, z1, z2, z3⟩, _⟩ := Rl.four_cells hk
    exact bodyPost_ret (v := .tuple #[.agg #[.int .i64 0, .slice none 0 0, .slice none 0 0, .slice none 0 0], .bool false]) (by simp [results, Tryz.results54, go_sem, z0, z1, z2, z3]) rfl ⟨(0, [], [], []), false, _, _, _, rfl, slq_nil, slq_nil, slq_nil, hbf, by rw [HV2.out]; rfl⟩
   ·have S30 := (HB3.out.cell (p := ⟨w.heap.size, 0, none⟩) hs0).trans p0; have S31 := (HB3.out.cell (p := ⟨w.heap.size, 1, none⟩) hs0).trans p1; have HK3 := Lib.hid (below_block HB3.out HK0.out); obtain ⟨⟨d30, d31, d32, d33⟩, f30, f31, f32, f33⟩ := Rl.four_cells HK3.out
    go_wp2_with (first | (go_at_call 19; ((with_reducible refine (CSo.out _ _ _ hc3 HA3.out (HT.out.next HB3.out)).mono ?_); rintro e5 w5 ⟨rfl, b5⟩; have HB5 := Lib.hid (HB3.out.trans (b5.mono HB3.out.size)); have HT5 := Lib.hid (HT3.out.next b5); have S50 := (HB5.out.cell (p := ⟨w.heap.size, 0, none⟩) hs0).trans p0; have S51 := (HB5.out.cell (p := ⟨w.heap.size, 1, none⟩) hs0).trans p1; have HK5 := Lib.hid (below_block HB5.out HK0.out); obtain ⟨⟨d50, d51, d52, d53⟩, f50, f51, f52, f53⟩ := Rl.four_cells HK5.out; clear b5)) | (go_at_call 103; ((with_reducible refine (CB2.out _ HB5.out).mono ?_); rintro e6 w6 ⟨A1, c1, A2, c2, rfl, hc1, hc2, C1, Y1, _, C2, Y2, b6⟩; have HB6 := Lib.hid (HB5.out.trans (b6.mono HB5.out.size)); have HT6 := Lib.hid (HT5.out.next b6); have HC1 := Lib.hid C1; have HY1 := Lib.hid Y1; have HC2 := Lib.hid C2; have HY2 := Lib.hid Y2; have S60 := (HB6.out.cell (p := ⟨w.heap.size, 0, none⟩) hs0).trans p0; have S61 := (HB6.out.cell (p := ⟨w.heap.size, 1, none⟩) hs0).trans p1; have HK6 := Lib.hid (below_block HB6.out HK0.out); obtain ⟨⟨d60, d61, d62, d63⟩, f60, f61, f62, f63⟩ := Rl.four_cells HK6.out; clear b6 C1 Y1 C2 Y2)))
    obtain ⟨hk, ho⟩ := set_rul HK6.out (.int .i64 1) (.slice A3 v.length n3) (.slice A1 dm.1.length c1) (.slice A2 dm.2.length c2)
    have hbf := set4_belowK (below_next HB0.out HB6.out) (Nat.le_succ _) (.int .i64 1) (.slice A3 v.length n3) (.slice A1 dm.1.length c1) (.slice A2 dm.2.length c2)
    have g1 : Rl.SlQ (some 70) 3 Rl.TokQ w6 v [.slice A3 v.length n3] := ⟨A3, n3, rfl, hc3, Rl.cells_ts HT6.out.1, HT6.out.2⟩
    have g2 : Rl.SlQ (some 42) 3 (Rl.DecQ true) w6 dm.1 [.slice A1 dm.1.length c1] := ⟨A1, c1, rfl, hc1, HC1.out, HY1.out⟩
    have g3 : Rl.SlQ (some 49) 2 (Rl.MarQ true) w6 dm.2 [.slice A2 dm.2.length c2] := ⟨A2, c2, rfl, hc2, HC2.out, HY2.out⟩
    have g1' := Rl.kT_sl (E := 47) (by decide) Rl.kT_tok _ _ _ _ _ g1 ho
    have g2' := Rl.kT_sl (E := 47) (by decide) (Rl.kT_dec2 (by decide)) _ _ _ _ _ g2 ho
    have g3' := Rl.kT_sl (E := 47) (by decide) (Rl.kT_mar2 (by decide) (by decide)) _ _ _ _ _ g3 ho
    clear g1 g2 g3 ho
    generalize ((((w6.setCell ⟨w.heap.size + 1, 0, none⟩ (.int .i64 1)).setCell ⟨w.heap.size + 1, 1, none⟩ (.slice A3 v.length n3)).setCell ⟨w.heap.size + 1, 2, none⟩ (.slice A1 dm.1.length c1)).setCell ⟨w.heap.size + 1, 3, none⟩ (.slice A2 dm.2.length c2)) = Wf at hk hbf g1' g2' g3' ⊢
    obtain ⟨⟨z0, z1, z2, z3⟩, _⟩ := Rl.four_cells hk
    exact bodyPost_ret (v := .tuple #[.agg #[.int .i64 1, .slice A3 v.length n3, .slice A1 dm.1.length c1, .slice A2 dm.2.length c2], .bool true]) (by simp [results, Tryz.results54, go_sem, z0, z1, z2, z3]) rfl ⟨(1, v, dm.1, dm.2), true, _, _, _, rfl, g1', g2', g3', hbf, by rw [HV2.out]; rfl⟩
structure En (B b : Nat) (w : World) (es : List Int) (v : Value) (op : List Int) (wr : World) : Prop where
 own : wr.ownsRow B 3 1 v op.length (nums .i64 op)
 row : wr.heap[b]? = some (.cells (nums .i64 es).toArray 3 (0, 0))
 bel : Below w.heap.size w wr
 new : w.heap.size <= b
 lt : b < B
 siz : B <= wr.heap.size
section
variable {B b : Nat} {w wr w1 : World} {es op : List Int} {v : Value}
theorem En.next (h : En B b w es v op wr) (hb : Below wr.heap.size wr w1) : En B b w es v op w1 :=
 ⟨kept_below h.own hb (Nat.le_refl _), (hb.block b (Nat.lt_of_lt_of_le h.lt h.siz)).trans h.row, below_next h.bel hb, h.new, h.lt, Nat.le_trans h.siz hb.size⟩
theorem En.drewN (h : En B b w es v op wr) (n : Nat) : En B b w es v op (wr.drewN n) := ⟨h.own, h.row, below_drewN h.bel n, h.new, h.lt, h.siz⟩
theorem En.cell (h : En B b w es v op wr) {j : Nat} (hj : j < es.length) : wr.cell? ⟨b, j, none⟩ = some (.int .i64 (Ru.g es j)) := by
 rw [cell_of_row wr b j _ 3 (0, 0) h.row, List.getElem?_toArray]
 exact nums_get hj
theorem En.free (h : En B b w es v op wr) (j : Nat) : wr.frozen? ⟨b, j, none⟩ = false := by simp [World.frozen?, h.row]
theorem En.set_ (h : En B b w es v op wr) (j : Nat) (y : Int) : En B b w (es.set j y) v op (wr.setCell ⟨b, j, none⟩ (.int .i64 y)) := by
 refine ⟨?_, ?_, h.bel.setCell h.new _, h.new, h.lt, ?_⟩
 ·refine ⟨h.own.1, ?_⟩
  rcases h.own.2 with h1 | ⟨g, cap, cur, hv, hg, hh, rest⟩
  ·exact .inl h1
  ·exact .inr ⟨g, cap, cur, hv, hg, (Below.heap_setCell wr _ _ g (fun e => by have := h.lt; have e2 : g = b := e; omega)).trans hh, rest⟩
 ·have hr := h.row
  unfold World.setCell
  simp [Array.getElem?_modify, hr, nums, List.map_set]
 ·have := h.siz; simpa [World.setCell] using this
theorem En.cut {A : Option Addr} {n cap : Nat} (hn : n = op.length) (h : En B b w es (.slice A n cap) op wr) {m : Nat} (hm : m <= n) : En B b w es (.slice A m cap) (op.take m) wr := by
 subst hn
 have h1 := own_cut h.own hm
 rw [Nat.mul_one, <- nums_take] at h1
 have e : (op.take m).length = m := by rw [List.length_take]; exact Nat.min_eq_left hm
 exact ⟨by rw [e]; exact h1, h.row, h.bel, h.new, h.lt, h.siz⟩
theorem En.form (h : En B b w es v op wr) : ∃ (A : Option Addr) (cap : Nat), v = .slice A op.length cap /\ op.length <= cap := by
 rcases h.own.2 with ⟨rfl, h0⟩ | ⟨x, cap, cur, rfl, _, _, hc, _⟩
 ·exact ⟨none, 0, by rw [h0], by omega⟩
 ·exact ⟨_, cap, rfl, hc⟩
theorem En.at_ (h : En B b w es v op wr) (h0 : 0 < op.length) : ∃ g cap, v = .slice (some ⟨g, 0, none⟩) op.length cap /\ op.length <= cap /\ g < wr.heap.size /\ ∀ j, j < op.length -> wr.cell? ⟨g, j, none⟩ = some (.int .i64 (Ru.g op j)) := by
 rcases h.own.2 with ⟨_, h1⟩ | ⟨x, cap, cur, rfl, hg, hh, hc, _⟩
 ·omega
 ·refine ⟨x, cap, rfl, hc, (Array.getElem?_eq_some_iff.1 hh).1, fun j hj => ?_⟩
  have := h.own.cells (g := x) rfl j _ (nums_get (k := .i64) hj)
  rwa [Addr.add_lit, Nat.zero_add] at this
theorem En.app {ops : Array Oper} {rest : List Oper} {o : Oper} {a : Act} {Q : Exit -> Act -> World -> Prop} (hgd : o.guard = none) (s x : Operand)
 (ho : o.op = .call { callee := .builtin .append, args := #[s, x], argTypes := #[54, 54] }) (hs : a.eval s = v) (H : En B b w es v op wr) (y : Int) (c : Nat) (E' : TypeId)
 (hx : a.eval x = .slice (some ⟨wr.heap.size, 0, none⟩) 1 c) (hm : op.length <= 1000000)
 (h : ∀ v' w3, En B b w es v' (op ++ [y]) w3 -> wpList Tryz.prog ops Q rest (a.put o.dst v') w3) : wpList Tryz.prog ops Q (o :: rest) a (wr.alloc (.cells #[.int .i64 y] E')) := by
 obtain ⟨i0, hi, hz0, hz1, hz2⟩ := info_parts Tryz.info3
 refine wpList_append_own _ hgd s x 54 ho B 3 i0 (.int .i64 0) 1 8 Tryz.underlying54 hi hz0 hz1 hz2 rfl (by decide) v op.length (nums .i64 op) hs (H.own.alloc _) ⟨wr.heap.size, 0, none⟩ 1 c [.int .i64 y] hx (by simp) (fun j u hj => ?_) (one_ok _) (by unfold maxLen; omega) (by omega) (Nat.le_trans H.siz (by simp)) ?_
 ·rw [Addr.add_lit, Nat.zero_add, World.cell?_alloc_mark]
  simpa using hj
 ·intro v' w3 hown hg _
  refine h v' w3 ⟨?_, ?_, ?_, H.new, H.lt, ?_⟩
  ·rw [List.length_append, nums_app]; exact hown
  ·have hlt : b < wr.heap.size := Nat.lt_of_lt_of_le H.lt H.siz
   refine (hg.block b (by simp; omega) (fun e => ?_)).trans ((Below.heap_alloc wr _ b hlt).trans H.row)
   have := (H.own.lt b e.symm).1
   have := H.lt
   omega
  ·refine (H.bel.alloc H.bel.size _).grown hg (by have := H.bel.size; simp; omega) (fun j hj => ?_)
   have h1 := (H.own.lt j hj).1
   have h2 := H.bel.size
   have h3 := H.lt
   have h4 := H.new
   omega
  ·have := hg.size
   have := H.siz
   simp at *
   omega
theorem En.told {n : Nat} (hn : es.length = n) (hm : n <= 1000000) (h : En B b w es v op wr) : wr.ownsRow w.heap.size 3 1 (.slice (some ⟨b, 0, none⟩) n n) es.length (nums .i64 es) := by
 subst hn
 refine ⟨by rw [nums_len, Nat.mul_one], .inr ⟨b, es.length, _, rfl, h.new, h.row, Nat.le_refl _, by unfold maxLen; omega, by simp [nums_len], ?_⟩⟩
 rw [Nat.mul_one, List.toList_toArray, List.take_of_length_le (by rw [nums_len]; exact Nat.le_refl _)]
end
theorem made_zero (n : Nat) : madeCells #[Value.int .i64 0] n = (nums .i64 (List.replicate n 0)).toArray := by
 unfold madeCells nums
 apply Array.ext
 ·simp
 ·intro i h1 h2
  simp [Nat.mod_one]
namespace Ns
open Tk
def enZ (ts : List Tok) (k : Nat) : List Int := enF ts k ++ List.replicate (ts.length - k) 0
theorem enZ_len {ts : List Tok} {k : Nat} (h : k <= ts.length) : (enZ ts k).length = ts.length := by unfold enZ; rw [List.length_append, enF_len, List.length_replicate]; omega
theorem enZ_end (ts : List Tok) : enZ ts ts.length = ends ts := by unfold enZ; rw [Nat.sub_self]; simp [ends]
theorem rep_set {n : Nat} (h : 0 < n) (y : Int) : (List.replicate n (0 : Int)).set 0 y = y :: List.replicate (n - 1) 0 := by
 obtain ⟨m, rfl⟩ : ∃ m, n = m + 1 := ⟨n - 1, by omega⟩
 rfl
theorem enZ_mark {ts : List Tok} {k : Nat} (h : k < ts.length) (y : Int) : (enZ ts k).set k y = enF ts k ++ y :: List.replicate (ts.length - (k + 1)) 0 := by
 unfold enZ
 rw [List.set_append_right _ _ (by rw [enF_len]; exact Nat.le_refl _), enF_len, Nat.sub_self, rep_set (by omega)]
 congr 3
theorem enZ_push {ts : List Tok} {k : Nat} (h : k < ts.length) (hO : isO (tk ts k)) : ((enZ ts k).set k (-1)).set k (ts.length : Int) = enZ ts (k + 1) := by
 rw [List.set_set, enZ_mark h]
 unfold enZ
 rw [enF_push hO, List.append_assoc]; rfl
theorem enZ_keep {ts : List Tok} {k : Nat} (h : k < ts.length) (hO : ¬ isO (tk ts k)) (hc : ¬ closes ts (opn ts k) k) : (enZ ts k).set k (-1) = enZ ts (k + 1) := by
 rw [enZ_mark h]
 unfold enZ
 rw [enF_keep hO hc, List.append_assoc]; rfl
theorem enZ_pop {ts : List Tok} {k : Nat} (h : k < ts.length) (hc : closes ts (opn ts k) k) : ((enZ ts k).set k (-1)).set (top (opn ts k)) (k : Int) = enZ ts (k + 1) := by
 have ht : top (opn ts k) < k := opn_lt (top_mem hc.2.1)
 rw [enZ_mark h]
 unfold enZ
 rw [enF_pop hc, List.append_assoc, List.set_append_left _ _ (by rw [enF_len]; exact ht)]; rfl
end Ns
def EndsJ (ts : List Tk.Tok) (A : Option Addr) (cap : Nat) (w : World) (a' : Act) (wr : World) : Prop :=
 ∃ (k : Nat) (v : Value) (u1 u2 u3 u7 u8 u9 u10 u11 u12 u13 u14 u15 u16 u17 u18 u19 u20 u21 u22 u23 u24 u25 u26 u27 u28 u29 u30 u31 u32 u33 u34 u35 u36 u37 u38 u39 u40 u41 u42 u43 u44 u45 u46 u47 u48 u49 u50 u51 u52 u53 u54 u55 u56 u57 u58 u59 u60 u61 u62 u63 u64 u65 u66 u67 : Value), a' = { tmps := #[.slice A ts.length cap, u1, u2, u3, .slice (some ⟨w.heap.size, 0, none⟩) ts.length ts.length, v, .int .i64 k, u7, u8, u9, u10, u11, u12, u13, u14, u15, u16, u17, u18, u19, u20, u21, u22, u23, u24, u25, u26, u27, u28, u29, u30, u31, u32, u33, u34, u35, u36, u37, u38, u39, u40, u41, u42, u43, u44, u45, u46, u47, u48, u49, u50, u51, u52, u53, u54, u55, u56, u57, u58, u59, u60, u61, u62, u63, u64, u65, u66, u67], defers := [] } /\ k <= ts.length /\ Hid (En (w.heap.size + 1) w.heap.size w (Ns.enZ ts k) v (Ns.ni (Ns.opn ts k)) wr) /\ Hid (∀ j, j <= k -> (Ns.opn ts j).length <= 64)
def at6 (a : Act) : Nat := (RowKit.intOf (a.tmps.getD 6 undef)).toNat
theorem shuts_iff {ts : List Tk.Tok} {k : Nat} (hn : Ns.opn ts k ≠ []) : Ns.shuts (Tk.tk ts k) (Tk.tk ts (Ns.top (Ns.opn ts k))) ↔ Ns.closes ts (Ns.opn ts k) k := ⟨fun h => ⟨h.1, hn, h.2⟩, fun h => ⟨h.1, h.2.2⟩⟩
theorem nends_code (ts : List Tk.Tok) (hm : ts.length <= 20000) (A : Option Addr) (cap : Nat) (w : World) (h : Ts w w.heap.size A ts) :
 Calls Tryz.prog 28 #[.slice A ts.length cap] w (EndsIs ts w) := by
 have hmk := run_make_row' (P := Tryz.prog) 54 3 (.int .i64 0) 8 Tryz.underlying54 Tryz.info3 rfl .i64 .i64 ts.length (by omega) (by omega)
 have HT := Lib.hid h
 obtain ⟨W0, hW⟩ : ∃ W0, W0 = w.alloc (.cells (madeCells #[.int .i64 0] ts.length) 3) := ⟨_, rfl⟩
 have HE0 : Hid (En (w.heap.size + 1) w.heap.size w (Ns.enZ ts 0) (.slice none 0 0) (Ns.ni (Ns.opn ts 0)) W0) := Lib.hid (by
  rw [hW]
  refine ⟨World.ownsRow_nil _ _ _ _, ?_, (Below.refl _ _).alloc (Nat.le_refl _) _, Nat.le_refl _, Nat.lt_succ_self _, by simp⟩
  rw [show Ns.enZ ts 0 = List.replicate ts.length 0 from rfl, <- made_zero]
  exact heap_alloc_new w _)
 have HW := Lib.hid hW.symm
 clear h hW
 go_enter Tryz.func28, Tryz.ntmps28
 go_wp2_with fail
 refine wp_scope_jumps 0 (fun a' wr => EndsJ ts A cap w a' wr) (fun a' _ => ts.length - at6 a') rfl ?_ ?_
 ·go_upto_region 2 with fail
  rw [HW.out]
  clear HW hmk
  go_wp2_with fail
  try go_step3
  have hk0 : 0 <= ts.length := Nat.zero_le _
  have HD : Hid (∀ j, j <= 0 -> (Ns.opn ts j).length <= 64) := Lib.hid fun j hj => by obtain rfl : j = 0 := by omega
                                                                                      exact Nat.zero_le _
  by_cases hlt : 0 < ts.length
  ·have hcell := HE0.out.cell (j := 0) (by rw [Ns.enZ_len hk0]; exact hlt)
   have hfree := HE0.out.free 0
   obtain ⟨W1, hW1⟩ : ∃ W1, W1 = W0.setCell ⟨w.heap.size, 0, none⟩ (.int .i64 (-1)) := ⟨_, rfl⟩
   have HE1 : Hid (En (w.heap.size + 1) w.heap.size w ((Ns.enZ ts 0).set 0 (-1)) (.slice none 0 0) (Ns.ni (Ns.opn ts 0)) W1) := Lib.hid (by rw [hW1]; exact HE0.out.set_ 0 (-1))
   have HW1 := Lib.hid hW1.symm
   obtain ⟨bb, off, rfl, hbb, hp⟩ := (HT.out.next HE1.out.bel) (by omega)
   obtain ⟨p0, p1, p2⟩ := hp 0 hlt
   have HP := Lib.hid hp
   have CC : Hid (∀ W, Calls Tryz.prog 51 #[.agg #[.int .i64 (Tk.tk ts 0).1, .string (Tk.tk ts 0).2.1, .int .i64 (Tk.tk ts 0).2.2]] W (Sg (Ns.clo (Tk.tk ts 0)) W)) := Lib.hid fun W => closing_any _ _ _ W
   have hol := Ns.opn_len ts 0
   have hnl := Ns.ni_len (Ns.opn ts 0)
   have hne : (0 == ts.length) = false := beq_false_of_ne (by omega)
   have hne2 : (((0 : Nat) : Int) == (ts.length : Int)) = false := beq_false_of_ne (by omega)
   have hzl := Ns.enZ_len (ts := ts) (k := 0) hk0
   have hd0 := HD.out 0 (Nat.le_refl _)
   clear hp hW1
   simp only [Nat.zero_mul, Nat.add_zero] at p0 p1 p2
   go_upto_region 7 with fail
   rw [HW1.out]
   clear HW1 hcell hfree
   by_cases hO : Ns.isO (Tk.tk ts 0)
   ·have he := Ns.empty_f hO
    have HN : Hid (Ns.ni (Ns.opn ts 1) = Ns.ni (Ns.opn ts 0) ++ [((0 : Nat) : Int)]) := Lib.hid (by rw [show 1 = 0 + 1 from rfl, Ns.opn_push hO, Ns.ni_app]; rfl)
    have HZ := Lib.hid (Ns.enZ_push hlt hO)
    have hpl : (Ns.opn ts 1).length = (Ns.opn ts 0).length + 1 := by rw [show 1 = 0 + 1 from rfl, Ns.opn_push hO]; simp
    have HV := HZ.out
    have e64 : ((Ns.ni (Ns.opn ts 0)).length == 64) = false := beq_false_of_ne (by omega)
    have e64i : (((Ns.ni (Ns.opn ts 0)).length : Int) == 64) = false := beq_false_of_ne (by omega)
    have HD2 : Hid (∀ j, j <= 1 -> (Ns.opn ts j).length <= 64) := Lib.hid fun j hj => by
     by_cases e : j = 1
     ·subst e; omega
     ·exact HD.out j (by omega)
    have hzk : 0 < ((Ns.enZ ts 0).set 0 (-1)).length := by rw [List.length_set]; omega
    have hol2 : (Ns.ni (Ns.opn ts 0)).length <= 1000000 := by omega
    clear hpl hnl hol
    generalize Ns.clo (Tk.tk ts 0) = cl at *
    generalize Tk.tk ts 0 = u at *
    go_upto_region 10 with (go_at_call 51; ((with_reducible refine (CC.out _).mono ?_); rintro e w2 ⟨rfl, b2⟩; have HE2 := Lib.hid (HE1.out.next b2); clear b2))
    have c3 := HE2.out.cell hzk
    have z3 := HE2.out.free 0
    obtain ⟨W3, hW3⟩ : ∃ W3, W3 = w2.setCell ⟨w.heap.size, 0, none⟩ (.int .i64 ts.length) := ⟨_, rfl⟩
    have HE3 : Hid (En (w.heap.size + 1) w.heap.size w (Ns.enZ ts 1) (.slice none 0 0) (Ns.ni (Ns.opn ts 0)) W3) := Lib.hid (by rw [hW3, <- HV]; exact HE2.out.set_ 0 _)
    have HW3 := Lib.hid hW3.symm
    clear hW3 hzk HV
    go_upto_region 11 with fail
    rw [HW3.out]
    clear HW3 c3 z3
    go_wp2_with (at_builtin; refine En.app rfl _ _ rfl rfl HE3.out ((0 : Nat) : Int) _ _ rfl hol2 ?_; intro v' w4 H4; rw [<- HN.out] at H4; have HE4 := Lib.hid H4; clear H4)
    go_step3
    exact ⟨rfl, ⟨1, _, _, _, _, _, _, _, _, _, _, _, _, _, _, _, _, _, _, _, _, _, _, _, _, _, _, _, _, _, _, _, _, _, _, _, _, _, _, _, _, _, _, _, _, _, _, _, _, _, _, _, _, _, _, _, _, _, _, _, _, _, _, _, _, _, rfl, by omega, HE4, HD2⟩⟩
   ·have hcn := Ns.clo_none hO
    rw [hcn] at CC
    have hcc : ¬ Ns.closes ts (Ns.opn ts 0) 0 := fun h => h.2.1 rfl
    have HN : Hid (Ns.ni (Ns.opn ts 1) = Ns.ni (Ns.opn ts 0)) := Lib.hid (by rw [show (1 : Nat) = 0 + 1 from rfl, Ns.opn_keep hO hcc])
    have HZ := Lib.hid (Ns.enZ_keep hlt hO hcc)
    have HD2 : Hid (∀ j, j <= 1 -> (Ns.opn ts j).length <= 64) := Lib.hid fun j hj => by
     by_cases e : j = 1
     ·subst e; rw [show (1 : Nat) = 0 + 1 from rfl, Ns.opn_keep hO hcc]; exact Nat.zero_le _
     ·exact HD.out j (by omega)
    clear hcn hO hcc HP hol hnl hd0
    generalize Tk.tk ts 0 = u at *
    go_upto_region 13 with (go_at_call 51; ((with_reducible refine (CC.out _).mono ?_); rintro e w2 ⟨rfl, b2⟩; have HE2 := Lib.hid (HE1.out.next b2); clear b2))
    go_quiet (fail)
    go_wp2_with fail
    go_step3
    have HE3 : Hid (En (w.heap.size + 1) w.heap.size w (Ns.enZ ts 1) (.slice none 0 0) (Ns.ni (Ns.opn ts 1)) (w2.drewN nq)) := Lib.hid (by rw [HN.out]; have := HE2.out.drewN nq; rw [HZ.out] at this; exact this)
    exact ⟨rfl, ⟨1, _, _, _, _, _, _, _, _, _, _, _, _, _, _, _, _, _, _, _, _, _, _, _, _, _, _, _, _, _, _, _, _, _, _, _, _, _, _, _, _, _, _, _, _, _, _, _, _, _, _, _, _, _, _, _, _, _, _, _, _, _, _, _, _, _, rfl, by omega, HE3, HD2⟩⟩
  ·obtain rfl : ts = [] := List.eq_nil_of_length_eq_zero (by omega)
   have HF := Lib.hid (HE0.out.told (Ns.enZ_len hk0) (by omega))
   have HB := Lib.hid HE0.out.bel
   have HZ := Lib.hid (show Ns.enZ [] 0 = Ns.ends [] from Ns.enZ_end [])
   simp only [List.length_nil]
   go_wp2_with fail
   simp only [Exit.jump]
   go_ret2
   exact ⟨fun _ => ⟨_, rfl, by have := HF.out; rw [HZ.out] at this; exact this, HB.out⟩, fun ⟨j, h1, h2⟩ => by have := HD.out (j + 1) (by omega); omega⟩
 ·rintro a' wr ⟨k, v, u1, u2, u3, u7, u8, u9, u10, u11, u12, u13, u14, u15, u16, u17, u18, u19, u20, u21, u22, u23, u24, u25, u26, u27, u28, u29, u30, u31, u32, u33, u34, u35, u36, u37, u38, u39, u40, u41, u42, u43, u44, u45, u46, u47, u48, u49, u50, u51, u52, u53, u54, u55, u56, u57, u58, u59, u60, u61, u62, u63, u64, u65, u66, u67, rfl, hk, HE, HD⟩
  clear HW hmk HE0
  obtain ⟨Av, cv, rfl, _⟩ := HE.out.form
  by_cases hlt : k < ts.length
  ·have hcell := HE.out.cell (j := k) (by rw [Ns.enZ_len hk]; exact hlt)
   have hfree := HE.out.free k
   obtain ⟨W1, hW1⟩ : ∃ W1, W1 = wr.setCell ⟨w.heap.size, k, none⟩ (.int .i64 (-1)) := ⟨_, rfl⟩
   have HE1 : Hid (En (w.heap.size + 1) w.heap.size w ((Ns.enZ ts k).set k (-1)) (.slice Av (Ns.ni (Ns.opn ts k)).length cv) (Ns.ni (Ns.opn ts k)) W1) := Lib.hid (by rw [hW1]; exact HE.out.set_ k (-1))
   have HW1 := Lib.hid hW1.symm
   obtain ⟨bb, off, rfl, hbb, hp⟩ := (HT.out.next HE1.out.bel) (by omega)
   obtain ⟨p0, p1, p2⟩ := hp k hlt
   have HP := Lib.hid hp
   have CC : Hid (∀ W, Calls Tryz.prog 51 #[.agg #[.int .i64 (Tk.tk ts k).1, .string (Tk.tk ts k).2.1, .int .i64 (Tk.tk ts k).2.2]] W (Sg (Ns.clo (Tk.tk ts k)) W)) := Lib.hid fun W => closing_any _ _ _ W
   have hol := Ns.opn_len ts k
   have hnl := Ns.ni_len (Ns.opn ts k)
   have hne : (k == ts.length) = false := beq_false_of_ne (by omega)
   have hne2 : (((k : Nat) : Int) == (ts.length : Int)) = false := beq_false_of_ne (by omega)
   have hzl := Ns.enZ_len (ts := ts) (k := k) hk
   have hd0 := HD.out k (Nat.le_refl _)
   clear hp hW1
   go_upto_region 7 with fail
   rw [HW1.out]
   clear HW1 hcell hfree
   by_cases hO : Ns.isO (Tk.tk ts k)
   ·have he := Ns.empty_f hO
    have HN : Hid (Ns.ni (Ns.opn ts (k + 1)) = Ns.ni (Ns.opn ts k) ++ [((k : Nat) : Int)]) := Lib.hid (by rw [show (k + 1) = k + 1 from rfl, Ns.opn_push hO, Ns.ni_app]; rfl)
    have HZ := Lib.hid (Ns.enZ_push hlt hO)
    have hpl : (Ns.opn ts (k + 1)).length = (Ns.opn ts k).length + 1 := by rw [show (k + 1) = k + 1 from rfl, Ns.opn_push hO]; simp
    by_cases h64 : (Ns.opn ts k).length = 64
    ·have HV : Hid (Ns.deep ts) := Lib.hid ⟨k, hlt, by omega⟩
     have e64 : ((Ns.ni (Ns.opn ts k)).length == 64) = true := by rw [hnl, h64]; rfl
     have e64i : (((Ns.ni (Ns.opn ts k)).length : Int) == 64) = true := by rw [hnl, h64]; rfl
     clear h64 hpl hnl hol HN HZ HP
     generalize Ns.clo (Tk.tk ts k) = cl at *
     generalize Tk.tk ts k = u at *
     go_wp2_with (go_at_call 51; ((with_reducible refine (CC.out _).mono ?_); rintro e w2 ⟨rfl, b2⟩; have HE2 := Lib.hid (HE1.out.next b2); clear b2))
     simp only [Exit.jump]
     go_ret2
     exact ⟨fun h => absurd HV.out h, fun _ => ⟨rfl, HE2.out.bel⟩⟩
    ·have HV := HZ.out
     have e64 : ((Ns.ni (Ns.opn ts k)).length == 64) = false := beq_false_of_ne (by omega)
     have e64i : (((Ns.ni (Ns.opn ts k)).length : Int) == 64) = false := beq_false_of_ne (by omega)
     have HD2 : Hid (∀ j, j <= (k + 1) -> (Ns.opn ts j).length <= 64) := Lib.hid fun j hj => by
      by_cases e : j = (k + 1)
      ·subst e; omega
      ·exact HD.out j (by omega)
     have hzk : k < ((Ns.enZ ts k).set k (-1)).length := by rw [List.length_set]; omega
     have hol2 : (Ns.ni (Ns.opn ts k)).length <= 1000000 := by omega
     clear hpl hnl hol
     generalize Ns.clo (Tk.tk ts k) = cl at *
     generalize Tk.tk ts k = u at *
     go_upto_region 10 with (go_at_call 51; ((with_reducible refine (CC.out _).mono ?_); rintro e w2 ⟨rfl, b2⟩; have HE2 := Lib.hid (HE1.out.next b2); clear b2))
     have c3 := HE2.out.cell hzk
     have z3 := HE2.out.free k
     obtain ⟨W3, hW3⟩ : ∃ W3, W3 = w2.setCell ⟨w.heap.size, k, none⟩ (.int .i64 ts.length) := ⟨_, rfl⟩
     have HE3 : Hid (En (w.heap.size + 1) w.heap.size w (Ns.enZ ts (k + 1)) (.slice Av (Ns.ni (Ns.opn ts k)).length cv) (Ns.ni (Ns.opn ts k)) W3) := Lib.hid (by rw [hW3, <- HV]; exact HE2.out.set_ k _)
     have HW3 := Lib.hid hW3.symm
     clear hW3 hzk HV
     go_upto_region 11 with fail
     rw [HW3.out]
     clear HW3 c3 z3
     go_wp2_with (at_builtin; refine En.app rfl _ _ rfl rfl HE3.out ((k : Nat) : Int) _ _ rfl hol2 ?_; intro v' w4 H4; rw [<- HN.out] at H4; have HE4 := Lib.hid H4; clear H4)
     go_step3
     exact ⟨rfl, ⟨k + 1, _, _, _, _, _, _, _, _, _, _, _, _, _, _, _, _, _, _, _, _, _, _, _, _, _, _, _, _, _, _, _, _, _, _, _, _, _, _, _, _, _, _, _, _, _, _, _, _, _, _, _, _, _, _, _, _, _, _, _, _, _, _, _, _, _, rfl, by omega, HE4, HD2⟩, by unfold at6; simp [RowKit.intOf]; omega⟩
   ·have hcn := Ns.clo_none hO
    rw [hcn] at CC
    have HD2 : Hid (∀ j, j <= k + 1 -> (Ns.opn ts j).length <= 64) := Lib.hid fun j hj => by
     by_cases e : j = k + 1
     ·subst e
      by_cases hc : Ns.closes ts (Ns.opn ts k) k
      ·rw [Ns.opn_pop hc, List.length_dropLast]; omega
      ·rw [Ns.opn_keep hO hc]; exact hd0
     ·exact HD.out j (by omega)
    by_cases hl0 : 0 < (Ns.opn ts k).length
    ·have hnn : Ns.opn ts k ≠ [] := by intro e; rw [e] at hl0; simp at hl0
     have hTm := Ns.opn_lt (Ns.top_mem hnn)
     have HIF := Lib.hid (shuts_iff hnn)
     obtain ⟨q0, q1, q2⟩ := HP.out (Ns.top (Ns.opn ts k)) (by omega)
     obtain ⟨g, cg, hvg, _, hg1, hgc0⟩ := HE1.out.at_ (by omega)
     have hgc := hgc0 ((Ns.ni (Ns.opn ts k)).length - 1) (by omega)
     have htg := Ns.top_g hl0
     rw [<- hnl] at htg
     rw [htg] at hgc
     have HX : Hid (Ns.closes ts (Ns.opn ts k) k -> Ns.ni (Ns.opn ts (k + 1)) = (Ns.ni (Ns.opn ts k)).take ((Ns.ni (Ns.opn ts k)).length - 1) /\ ((Ns.enZ ts k).set k (-1)).set (Ns.top (Ns.opn ts k)) (k : Int) = Ns.enZ ts (k + 1)) := Lib.hid fun hc => ⟨by rw [Ns.opn_pop hc, Ns.ni_drop, Ns.ni_len], Ns.enZ_pop hlt hc⟩
     have HY : Hid (¬ Ns.closes ts (Ns.opn ts k) k -> Ns.ni (Ns.opn ts (k + 1)) = Ns.ni (Ns.opn ts k) /\ (Ns.enZ ts k).set k (-1) = Ns.enZ ts (k + 1)) := Lib.hid fun hc => ⟨by rw [Ns.opn_keep hO hc], Ns.enZ_keep hlt hO hc⟩
     have CT : Hid (∀ W, Calls Tryz.prog 52 #[.agg #[.int .i64 (Tk.tk ts k).1, .string (Tk.tk ts k).2.1, .int .i64 (Tk.tk ts k).2.2], .agg #[.int .i64 (Tk.tk ts (Ns.top (Ns.opn ts k))).1, .string (Tk.tk ts (Ns.top (Ns.opn ts k))).2.1, .int .i64 (Tk.tk ts (Ns.top (Ns.opn ts k))).2.2]] W (Bo (decide (Ns.shuts (Tk.tk ts k) (Tk.tk ts (Ns.top (Ns.opn ts k))))) W)) := Lib.hid fun W => ncloses_any _ _ _ _ _ _ W
     have hTz : Ns.top (Ns.opn ts k) < ((Ns.enZ ts k).set k (-1)).length := by rw [List.length_set]; omega
     have hT1 : Ns.top (Ns.opn ts k) < ts.length := by omega
     have hpos : 0 < (Ns.ni (Ns.opn ts k)).length := by omega
     have hol2 : (Ns.ni (Ns.opn ts k)).length <= 20000 := by omega
     injection hvg with hA _ hcg
     subst hA hcg
     clear hgc0 htg hcn hO hl0 hnn hTm HP hol hnl hd0 hzl
     generalize Tk.tk ts (Ns.top (Ns.opn ts k)) = x at *
     generalize Ns.top (Ns.opn ts k) = T at *
     generalize Tk.tk ts k = u at *
     generalize Ns.ni (Ns.opn ts k) = ol at *
     have hsub : IntKind.i64.wrap ((ol.length : Int) - 1) = (ol.length : Int) - 1 := IntWalk.i64_in _ (by omega)
     have hsn : ((ol.length : Int) - 1).toNat = ol.length - 1 := by omega
     have hsb : (0 : Int) <= (ol.length : Int) - 1 := by omega
     have hti : (T : Int) < (ts.length : Int) := by omega
     have hsl : (ol.length : Int) - 1 < (ol.length : Int) := by omega
     have hk0 : (0 : Int) <= (k : Int) := by omega
     have hs1 : (1 : Int) <= (ol.length : Int) := by omega
     have hs2 : 1 <= ol.length := by omega
     have hk1 : (k : Int) < (ts.length : Int) := by omega
     go_upto_region 13 with (go_at_call 51; ((with_reducible refine (CC.out _).mono ?_); rintro e w2 ⟨rfl, b2⟩; have HE2 := Lib.hid (HE1.out.next b2); have r0 := (b2.cell (p := ⟨bb, off + k * 3, none⟩) hbb).trans p0; have s0 := (b2.cell (p := ⟨bb, off + T * 3, none⟩) hbb).trans q0; have r1 := (b2.cell (p := ⟨bb, off + k * 3 + 1, none⟩) hbb).trans p1; have s1 := (b2.cell (p := ⟨bb, off + T * 3 + 1, none⟩) hbb).trans q1; have r2 := (b2.cell (p := ⟨bb, off + k * 3 + 2, none⟩) hbb).trans p2; have s2 := (b2.cell (p := ⟨bb, off + T * 3 + 2, none⟩) hbb).trans q2; have gc := (b2.cell (p := ⟨g, ol.length - 1, none⟩) hg1).trans hgc; have hbb2 := Nat.lt_of_lt_of_le hbb b2.size; have hg2 := Nat.lt_of_lt_of_le hg1 b2.size; clear b2))
     clear p0 p1 p2 q0 q1 q2 hgc hbb hg1
     by_cases hc : Ns.closes ts (Ns.opn ts k) k
     ·have hbt : decide (Ns.shuts u x) = true := decide_eq_true (HIF.out.2 hc)
      have HXX := Lib.hid (HX.out hc)
      rw [hbt] at CT
      clear hbt HX HY HIF hc
      go_region_held3 (fun w' => w'.cell? ⟨bb, off + k * 3, none⟩ = some (.int .i64 u.1) /\ w'.cell? ⟨bb, off + k * 3 + 1, none⟩ = some (.string u.2.1) /\ w'.cell? ⟨bb, off + k * 3 + 2, none⟩ = some (.int .i64 u.2.2) /\ w'.cell? ⟨bb, off + T * 3, none⟩ = some (.int .i64 x.1) /\ w'.cell? ⟨bb, off + T * 3 + 1, none⟩ = some (.string x.2.1) /\ w'.cell? ⟨bb, off + T * 3 + 2, none⟩ = some (.int .i64 x.2.2) /\ w'.cell? ⟨g, ol.length - 1, none⟩ = some (.int .i64 T))
     (first | go_keep | (go_split_ands; exact ⟨(hb1.cell (p := ⟨bb, off + k * 3, none⟩) hbb2).trans (by assumption), (hb1.cell (p := ⟨bb, off + k * 3 + 1, none⟩) hbb2).trans (by assumption), (hb1.cell (p := ⟨bb, off + k * 3 + 2, none⟩) hbb2).trans (by assumption), (hb1.cell (p := ⟨bb, off + T * 3, none⟩) hbb2).trans (by assumption), (hb1.cell (p := ⟨bb, off + T * 3 + 1, none⟩) hbb2).trans (by assumption), (hb1.cell (p := ⟨bb, off + T * 3 + 2, none⟩) hbb2).trans (by assumption), (hb1.cell (p := ⟨g, ol.length - 1, none⟩) hg2).trans (by assumption)⟩))
     (first | (go_at_call 52; refine (CT.out _).mono ?_; rintro e w3 ⟨rfl, hb1⟩))
      have HE3 := Lib.hid (HE2.out.next ((Below.refl _ _).drew.trans hb1))
      have gc3 := (hb1.cell (p := ⟨g, ol.length - 1, none⟩) hg2).trans gc
      clear hb1 r0 r1 r2 s0 s1 s2 gc
      go_upto_region 14 with fail
      have c5 := HE3.out.cell hTz
      have z5 := HE3.out.free T
      obtain ⟨W4, hW4⟩ : ∃ W4, W4 = w3.setCell ⟨w.heap.size, T, none⟩ (.int .i64 k) := ⟨_, rfl⟩
      have HE4 : Hid (En (w.heap.size + 1) w.heap.size w (Ns.enZ ts (k + 1)) (.slice (some ⟨g, 0, none⟩) ol.length cv) ol W4) := Lib.hid (by rw [hW4, <- HXX.out.2]; exact HE3.out.set_ T _)
      have HW4 := Lib.hid hW4.symm
      clear hW4
      go_upto_region 15 with fail
      rw [HW4.out]
      clear HW4 c5 z5
      go_wp2_with fail
      go_step3
      have HE5 : Hid (En (w.heap.size + 1) w.heap.size w (Ns.enZ ts (k + 1)) (.slice (some ⟨g, 0, none⟩) (ol.length - 1) cv) (Ns.ni (Ns.opn ts (k + 1))) W4) := Lib.hid (by rw [HXX.out.1]; exact HE4.out.cut rfl (Nat.sub_le _ _))
      exact ⟨rfl, ⟨k + 1, _, _, _, _, _, _, _, _, _, _, _, _, _, _, _, _, _, _, _, _, _, _, _, _, _, _, _, _, _, _, _, _, _, _, _, _, _, _, _, _, _, _, _, _, _, _, _, _, _, _, _, _, _, _, _, _, _, _, _, _, _, _, _, _, _, rfl, by omega, HE5, HD2⟩, by unfold at6; simp [RowKit.intOf]; omega⟩
     ·have hbt : decide (Ns.shuts u x) = false := decide_eq_false (fun c => hc (HIF.out.1 c))
      have HYY := Lib.hid (HY.out hc)
      rw [hbt] at CT
      clear hbt HX HY HIF hc
      go_region_held3 (fun w' => w'.cell? ⟨bb, off + k * 3, none⟩ = some (.int .i64 u.1) /\ w'.cell? ⟨bb, off + k * 3 + 1, none⟩ = some (.string u.2.1) /\ w'.cell? ⟨bb, off + k * 3 + 2, none⟩ = some (.int .i64 u.2.2) /\ w'.cell? ⟨bb, off + T * 3, none⟩ = some (.int .i64 x.1) /\ w'.cell? ⟨bb, off + T * 3 + 1, none⟩ = some (.string x.2.1) /\ w'.cell? ⟨bb, off + T * 3 + 2, none⟩ = some (.int .i64 x.2.2) /\ w'.cell? ⟨g, ol.length - 1, none⟩ = some (.int .i64 T))
     (first | go_keep | (go_split_ands; exact ⟨(hb1.cell (p := ⟨bb, off + k * 3, none⟩) hbb2).trans (by assumption), (hb1.cell (p := ⟨bb, off + k * 3 + 1, none⟩) hbb2).trans (by assumption), (hb1.cell (p := ⟨bb, off + k * 3 + 2, none⟩) hbb2).trans (by assumption), (hb1.cell (p := ⟨bb, off + T * 3, none⟩) hbb2).trans (by assumption), (hb1.cell (p := ⟨bb, off + T * 3 + 1, none⟩) hbb2).trans (by assumption), (hb1.cell (p := ⟨bb, off + T * 3 + 2, none⟩) hbb2).trans (by assumption), (hb1.cell (p := ⟨g, ol.length - 1, none⟩) hg2).trans (by assumption)⟩))
     (first | (go_at_call 52; refine (CT.out _).mono ?_; rintro e w3 ⟨rfl, hb1⟩))
      have HE3 : Hid (En (w.heap.size + 1) w.heap.size w (Ns.enZ ts (k + 1)) (.slice (some ⟨g, 0, none⟩) ol.length cv) (Ns.ni (Ns.opn ts (k + 1))) w3) := Lib.hid (by rw [HYY.out.1, <- HYY.out.2]; exact HE2.out.next ((Below.refl _ _).drew.trans hb1))
      clear hb1 r0 r1 r2 s0 s1 s2 gc
      go_wp2_with fail
      go_step3
      exact ⟨rfl, ⟨k + 1, _, _, _, _, _, _, _, _, _, _, _, _, _, _, _, _, _, _, _, _, _, _, _, _, _, _, _, _, _, _, _, _, _, _, _, _, _, _, _, _, _, _, _, _, _, _, _, _, _, _, _, _, _, _, _, _, _, _, _, _, _, _, _, _, _, rfl, by omega, HE3, HD2⟩, by unfold at6; simp [RowKit.intOf]; omega⟩
    ·have hcc : ¬ Ns.closes ts (Ns.opn ts k) k := fun h => h.2.1 (List.eq_nil_of_length_eq_zero (by omega))
     have HN : Hid (Ns.ni (Ns.opn ts (k + 1)) = Ns.ni (Ns.opn ts k)) := Lib.hid (by rw [Ns.opn_keep hO hcc])
     have HZ := Lib.hid (Ns.enZ_keep hlt hO hcc)
     have hni : Ns.ni (Ns.opn ts k) = [] := List.eq_nil_of_length_eq_zero (by omega)
     clear hcn hO hcc HP hol hnl hd0 hl0
     generalize Tk.tk ts k = u at *
     generalize Ns.ni (Ns.opn ts k) = ol at *
     subst hni
     simp only [List.length_nil]
     go_upto_region 13 with (go_at_call 51; ((with_reducible refine (CC.out _).mono ?_); rintro e w2 ⟨rfl, b2⟩; have HE2 := Lib.hid (HE1.out.next b2); clear b2))
     go_quiet (fail)
     go_wp2_with fail
     go_step3
     have HE3 : Hid (En (w.heap.size + 1) w.heap.size w (Ns.enZ ts (k + 1)) (.slice Av 0 cv) (Ns.ni (Ns.opn ts (k + 1))) (w2.drewN nq)) := Lib.hid (by rw [HN.out, <- HZ.out]; exact HE2.out.drewN _)
     exact ⟨rfl, ⟨k + 1, _, _, _, _, _, _, _, _, _, _, _, _, _, _, _, _, _, _, _, _, _, _, _, _, _, _, _, _, _, _, _, _, _, _, _, _, _, _, _, _, _, _, _, _, _, _, _, _, _, _, _, _, _, _, _, _, _, _, _, _, _, _, _, _, _, rfl, by omega, HE3, HD2⟩, by unfold at6; simp [RowKit.intOf]; omega⟩
  ·obtain rfl : k = ts.length := by omega
   have HF := Lib.hid (HE.out.told (Ns.enZ_len hk) (by omega))
   have HB := Lib.hid HE.out.bel
   have HZ := Lib.hid (Ns.enZ_end ts)
   go_wp2_with fail
   simp only [Exit.jump]
   go_ret2
   exact ⟨fun _ => ⟨_, rfl, by have := HF.out; rw [HZ.out] at this; exact this, HB.out⟩, fun ⟨j, h1, h2⟩ => by have := HD.out (j + 1) (by omega); omega⟩
namespace Rl
open Tk Ns
def frAt (ts : List Tok) (a : Nat) : Nat := if isAt ts a = true then a + 1 else a
theorem endAt_fo (ts : List Tok) (a : Nat) : endAt ts a = fo (stB (isAt ts a)) ts (frAt ts a) ts.length := rfl
theorem prs_ruleO {sd : List Tok -> Bool} {ts : List Tok} {a : Nat} (h : a < ts.length) (h1 : (tk ts a).1 ≠ 1) (he : endAt ts a < ts.length) :
 prs sd ts a = (match ruleO sd ts a (endAt ts a) with | some r => [r] | none => []) ++ prs sd ts (sk (ends ts) (endAt ts a)) := by
 have hst : stB (isAt ts a) (tk ts (endAt ts a)) = true := fo_is (show fo (stB (isAt ts a)) ts (frAt ts a) ts.length < ts.length from he)
 have h12 : (tk ts (endAt ts a)).1 = 12 ↔ brB (tk ts (endAt ts a)) = true := by
  constructor
  ·intro c
   unfold stB at hst
   have h2 : seB (tk ts (endAt ts a)) = false := decide_eq_false (by omega)
   rw [h2, Bool.and_false, Bool.or_false] at hst
   exact hst
  ·intro c
   exact (of_decide_eq_true c : (tk ts (endAt ts a)).1 = 12 /\ (tk ts (endAt ts a)).2.1 = ⟨#[123]⟩).1
 by_cases hr : isRule sd ts a
 ·have hr2 := hr
  unfold isRule at hr2
  have hb := h12.1 hr2.2.1
  have hg := ends_opens he (brB_opens hb)
  have e : ruleO sd ts a (endAt ts a) = some ((if isAt ts a = true then 2 else 1), trim (sub ts (if isAt ts a = true then a + 1 else a) (endAt ts a)), (blk sd ts (isAt ts a) (endAt ts a + 1) (Ru.g (ends ts) (endAt ts a)).toNat).1, (blk sd ts (isAt ts a) (endAt ts a + 1) (Ru.g (ends ts) (endAt ts a)).toNat).2) := by
   unfold ruleO
   exact if_pos ⟨hb, hr2.2.2.1, hr2.2.2.2⟩
  rw [prs_rule sd ts h h1 hr (by omega), e]
  rfl
 ·rw [prs_no sd ts h h1 hr]
  have e : ruleO sd ts a (endAt ts a) = none := by
   unfold ruleO
   exact if_neg (fun c => hr (by unfold isRule; exact ⟨he, h12.2 c.1, c.2.1, c.2.2⟩))
  rw [e]
  rfl
theorem prs_last {sd : List Tok -> Bool} {ts : List Tok} {a : Nat} (h : a < ts.length) (h1 : (tk ts a).1 ≠ 1) (he : endAt ts a = ts.length) : prs sd ts a = [] := by
 have hs := sk_gt (ends ts) (endAt ts a)
 rw [prs_no sd ts h h1 (fun c => by unfold isRule at c; omega), prs_end sd ts (by omega)]
end Rl
theorem toldRu_sl {o : Option Rl.Rule} {w : World} {e : Ending} {w' : World} (h : ToldRu o w e w') :
 ∃ (r : Rl.Rule) (b : Bool) (A1 : Option Addr) (c1 : Nat) (A2 : Option Addr) (c2 : Nat) (A3 : Option Addr) (c3 : Nat), e = .returned (.tuple #[.agg #[.int .i64 r.1, .slice A1 r.2.1.length c1, .slice A2 r.2.2.1.length c2, .slice A3 r.2.2.2.length c3], .bool b]) /\
   Rl.SlQ (some 70) 3 Rl.TokQ w' r.2.1 [.slice A1 r.2.1.length c1] /\ Rl.SlQ (some 42) 3 (Rl.DecQ true) w' r.2.2.1 [.slice A2 r.2.2.1.length c2] /\ Rl.SlQ (some 49) 2 (Rl.MarQ true) w' r.2.2.2 [.slice A3 r.2.2.2.length c3] /\ Below w.heap.size w w' /\ o = if b = true then some r else none := by
 obtain ⟨r, b, v1, v2, v3, he, g1, g2, g3, hb, ho⟩ := h
 have g1' := g1
 have g2' := g2
 have g3' := g3
 obtain ⟨A1, c1, e1, _⟩ := g1'
 obtain ⟨A2, c2, e2, _⟩ := g2'
 obtain ⟨A3, c3, e3, _⟩ := g3'
 injection e1 with e1
 injection e2 with e2
 injection e3 with e3
 subst e1 e2 e3
 exact ⟨r, b, A1, c1, A2, c2, A3, c3, he, g1, g2, g3, hb, ho⟩
def ToldRs (l : List Rl.Rule) (w : World) (e : Ending) (w' : World) : Prop :=
 ∃ (A : Option Addr) (cap : Nat), e = .returned (.slice A l.length cap) /\ l.length <= cap /\ Rl.Cells 4 (Rl.RulQ true) w' A l /\ Rl.Tyd (some 47) w' A /\ Below w.heap.size w w'
def RsAt (sd : List Tk.Tok -> Bool) (ts : List Tk.Tok) (w : World) (v3 v4 : Value) (wr : World) : Prop :=
 ∃ (k : Nat) (rs : List Rl.Rule), k <= ts.length + 1 /\ rs.length <= k /\ v4 = .int .i64 k /\ Hid (Rl.prs sd ts 0 = rs ++ Rl.prs sd ts k) /\ Hid (Rl.Gr 47 4 (Rl.RulQ true) w v3 rs wr)
theorem toldRs_of {w w0 wr : World} {v : Value} {rs : List Rl.Rule} (hb : Below w.heap.size w w0) (h : Rl.Gr 47 4 (Rl.RulQ true) w0 v rs wr) : ToldRs rs w (.returned v) wr := by
 obtain ⟨A, cap, rfl, hc, hC, hT⟩ := h.form
 exact ⟨A, cap, rfl, hc, hC, hT, below_next hb h.bel⟩
theorem srules_any (sd : List Tk.Tok -> Bool) (hsd : SdK sd) (ts : List Tk.Tok) (hF : Pr.FairB ts) (hwf : Pr.Wf ts) (A C : Option Addr) (ca cc : Nat) (w : World) (h : Sh ts A ca C w) (hT : PTab w.heap.size w) (hB : BTab w.heap.size w) :
 Calls Tryz.prog 29 #[shV A ts.length ca C (Ns.ends ts).length cc] w (ToldRs (Rl.parse sd ts) w) := by
 have hm := hF.1
 have HEL := Lib.hid (Ns.ends_len ts)
 have HP0' := Lib.hid (Rl.prs_0 sd ts)
 obtain ⟨W0, hW⟩ : ∃ W0, W0 = w.alloc (.cells #[.slice A ts.length ca, .slice C (Ns.ends ts).length cc] 58) := ⟨_, rfl⟩
 have hb0 : Below w.heap.size w W0 := by rw [hW]; exact (Below.refl _ _).alloc (Nat.le_refl _) _
 have k0 : W0.heap[w.heap.size]? = some (.cells #[.slice A ts.length ca, .slice C (Ns.ends ts).length cc] 58 (0, 0)) := by rw [hW]; exact heap_alloc_new w _
 obtain ⟨p0, p1⟩ := sh_cells k0
 have hs0 : w.heap.size < W0.heap.size := by rw [hW]; simp
 have HB0 := Lib.hid hb0
 have HW := Lib.hid hW.symm
 have HS := Lib.hid (h.next hb0)
 have HT := Lib.hid (hT.next hb0)
 have HBT := Lib.hid (hB.next hb0)
 have HP0 := Lib.hid p0
 have HP1 := Lib.hid p1
 clear hb0 k0 hW h hT hB p0 p1
 unfold shV
 go_enter Tryz.func29, Tryz.ntmps29
 go_upto_region 1 with fail
 rw [HW.out]
 clear HW
 go_wp2_with fail
 go_loopw [3, 4] (fun v3 v4 wr => RsAt sd ts W0 v3 v4 wr) (fun _ v4 _ => ts.length - (RowKit.intOf v4).toNat)
 case atStart => exact ⟨0, [], Nat.zero_le _, Nat.le_refl _, rfl, Lib.hid rfl, Lib.hid (Rl.Gr.start (Below.refl _ _))⟩
 case round =>
  obtain ⟨k, rs, hk, hrs, rfl, HV, HG⟩ := hrel
  have HBR := Lib.hid HG.out.bel
  have s0 := (HBR.out.cell (p := ⟨w.heap.size, 0, none⟩) hs0).trans HP0.out
  have s1 := (HBR.out.cell (p := ⟨w.heap.size, 1, none⟩) hs0).trans HP1.out
  by_cases hlt : k < ts.length
  ·have hkli : (k : Int) < (ts.length : Int) := by omega
   obtain ⟨b, off, rfl, hbb, hpp⟩ := HS.out.hts (by omega)
   obtain ⟨q0, _, _⟩ := hpp k hlt
   replace q0 := (HBR.out.cell (p := ⟨b, off + k * 3, none⟩) hbb).trans q0
   clear hpp
   by_cases h1 : (Tk.tk ts k).1 = 1
   ·have HN : Hid (Rl.prs sd ts 0 = rs ++ Rl.prs sd ts (k + 1)) := Lib.hid (by rw [HV.out, Rl.prs_sp sd ts hlt h1])
    rw [h1] at q0
    clear h1 HV
    go_wp2_with fail
    go_roundw
    case rel => exact ⟨k + 1, rs, by omega, by omega, by go_num, HN, HG⟩
    case measure => simp [RowKit.intOf]; omega
   ·have n1 : ((Tk.tk ts k).1 == 1) = false := beq_false_of_ne h1
    have hfr : Rl.frAt ts k <= ts.length /\ k <= Rl.frAt ts k /\ (Rl.isAt ts k = true -> Rl.frAt ts k = k + 1) := by
     unfold Rl.frAt
     by_cases c : Rl.isAt ts k = true
     ·rw [if_pos c]; exact ⟨by omega, by omega, fun _ => rfl⟩
     ·rw [if_neg c]; exact ⟨by omega, by omega, fun c2 => absurd c2 c⟩
    have CE : Hid (Calls Tryz.prog 53 #[.agg #[.slice (some ⟨b, off, none⟩) ts.length ca, .slice C (Ns.ends ts).length cc], .int .i64 k, .int .i64 ts.length] wr (Nu (Ns.fnd (fun x => Rl.stB (Rl.isAt ts k) (Tk.tk ts x)) (Ns.plc (Ns.ends ts) ts.length (Rl.frAt ts k))) wr)) := Lib.hid (by
     have := send_any ts (by omega) (some ⟨b, off, none⟩) C ca cc k ts.length hlt (Nat.le_refl _) wr (HS.out.next HBR.out)
     by_cases c : (Tk.tk ts k).1 = 4
     ·have c2 : Rl.isAt ts k = true := decide_eq_true c
      rw [decide_eq_true c, Rl.fnd_at hlt (Nat.le_refl _) c] at this
      rw [hfr.2.2 c2, c2]
      exact this
     ·have c2 : Rl.isAt ts k = false := decide_eq_false c
      rw [decide_eq_false c] at this
      have e : Rl.frAt ts k = k := by unfold Rl.frAt; rw [c2]; rfl
      rw [e, c2]
      exact this)
    have hfo : Rl.endAt ts k = if Ns.fnd (fun x => Rl.stB (Rl.isAt ts k) (Tk.tk ts x)) (Ns.plc (Ns.ends ts) ts.length (Rl.frAt ts k)) = -1 then ts.length else (Ns.fnd (fun x => Rl.stB (Rl.isAt ts k) (Tk.tk ts x)) (Ns.plc (Ns.ends ts) ts.length (Rl.frAt ts k))).toNat := rfl
    have hra := Rl.fnd_range (fun x => Rl.stB (Rl.isAt ts k) (Tk.tk ts x)) (Ns.plc (Ns.ends ts) ts.length (Rl.frAt ts k))
    have hfb := Rl.fo_bd (Rl.stB (Rl.isAt ts k)) ts hfr.1
    rw [<- Rl.endAt_fo] at hfb
    have HMem : Hid (Ns.fnd (fun x => Rl.stB (Rl.isAt ts k) (Tk.tk ts x)) (Ns.plc (Ns.ends ts) ts.length (Rl.frAt ts k)) ≠ -1 -> Rl.endAt ts k < ts.length) := Lib.hid fun hne => by
     obtain ⟨x, hx, e, _⟩ := Rl.fnd_mem hne
     have hx2 := Ns.plc_mem _ (Nat.le_refl _) hx
     rw [hfo, if_neg hne, e, Int.toNat_natCast]; exact hx2.2
    generalize Ns.fnd (fun x => Rl.stB (Rl.isAt ts k) (Tk.tk ts x)) (Ns.plc (Ns.ends ts) ts.length (Rl.frAt ts k)) = fa at *
    by_cases hfa : fa < 0
    ·have d1 : decide (fa < 0) = true := decide_eq_true hfa
     have HN : Hid (Rl.prs sd ts 0 = rs) := Lib.hid (by rw [HV.out, Rl.prs_last hlt h1 (by rw [hfo, if_pos (by omega)]), List.append_nil])
     clear hfo hra HMem hfb hfr h1 HV
     generalize (Tk.tk ts k).1 = kk at *
     go_wp2_with (go_at_call 53; ((with_reducible refine (CE.out).mono ?_); rintro e w1 ⟨rfl, b1⟩; have HB1 := Lib.hid b1; clear b1))
     have HR := Lib.hid (toldRs_of HB0.out (HG.out.next (Rl.keeps_rul true) HB1.out))
     go_ret
     rw [HP0'.out, HN.out]; exact HR.out
    ·obtain ⟨m, rfl⟩ : ∃ m : Nat, fa = m := ⟨fa.toNat, by omega⟩
     have d1 : decide ((m : Int) < 0) = false := decide_eq_false hfa
     have hem : Rl.endAt ts k = m := by rw [hfo, if_neg (by omega)]; rfl
     have hle : m < ts.length := by have := HMem.out (by omega); omega
     have hkm : k <= m := by omega
     have hatm : Rl.isAt ts k = true -> k < m := fun c => by have := hfr.2.2 c; omega
     have HPR := Lib.hid (Rl.prs_ruleO (sd := sd) hlt h1 (by omega))
     rw [hem] at HPR
     have CR : Hid (∀ W, Below W0.heap.size W0 W -> Calls Tryz.prog 54 #[.agg #[.slice (some ⟨b, off, none⟩) ts.length ca, .slice C (Ns.ends ts).length cc], .int .i64 k, .int .i64 m] W (ToldRu (Rl.ruleO sd ts k m) W)) := Lib.hid fun W hb => srule_any sd hsd ts hF hwf (some ⟨b, off, none⟩) C ca cc k m hlt hkm hle hatm W (HS.out.next hb) (HT.out.next hb) (HBT.out.next hb)
     have hs0' := Ns.sk_gt (Ns.ends ts) m
     have hs1 : Ns.sk (Ns.ends ts) m <= ts.length := by
      have := Ns.sk_le (es := Ns.ends ts) (a := m) (by rw [HEL.out]; exact hle)
      rw [HEL.out] at this; exact this
     have CS : Hid (∀ W, Below W0.heap.size W0 W -> Calls Tryz.prog 55 #[.slice C (Ns.ends ts).length cc, .int .i64 m] W (Nu (Ns.sk (Ns.ends ts) m : Nat) W)) := Lib.hid fun W hb => by
      rw [Ns.sk_eq]; exact skipC _ (Ns.ends_fit (by omega)) (Ns.ends_lead ts) C cc m (by omega) W (HS.out.next hb).hes
     clear hfo hra HMem hfb hfr h1 hem hatm
     generalize HRO : Rl.ruleO sd ts k m = ro at *
     clear HRO
     generalize HN9 : Ns.sk (Ns.ends ts) m = n9 at *
     clear HN9
     generalize (Tk.tk ts k).1 = kk at *
     go_upto_region 9 with (first | (go_at_call 53; ((with_reducible refine (CE.out).mono ?_); rintro e w1 ⟨rfl, b1⟩; have HB1 := Lib.hid b1; have HBW1 := Lib.hid (below_next HBR.out b1); have s10 := (HBW1.out.cell (p := ⟨w.heap.size, 0, none⟩) hs0).trans HP0.out; have s11 := (HBW1.out.cell (p := ⟨w.heap.size, 1, none⟩) hs0).trans HP1.out; clear b1)) | (go_at_call 54; ((with_reducible refine (CR.out _ HBW1.out).mono ?_); rintro e w2 h2; obtain ⟨r, bb, A1, c1, A2, c2, A3, c3, rfl, g1, g2, g3, b2, hres⟩ := toldRu_sl h2; have HB2 := Lib.hid (below_next HB1.out b2); have HG1 := Lib.hid g1; have HG2 := Lib.hid g2; have HG3 := Lib.hid g3; have HRES := Lib.hid hres; clear b2 g1 g2 g3 hres h2)))
     have k3 := heap_alloc_new w2 (.cells #[.int .i64 r.1, .slice A1 r.2.1.length c1, .slice A2 r.2.2.1.length c2, .slice A3 r.2.2.2.length c3] 47)
     have bn := (Below.refl w2.heap.size w2).alloc (Nat.le_refl _) (.cells #[.int .i64 r.1, .slice A1 r.2.1.length c1, .slice A2 r.2.2.1.length c2, .slice A3 r.2.2.2.length c3] 47)
     generalize w2.alloc (.cells #[.int .i64 r.1, .slice A1 r.2.1.length c1, .slice A2 r.2.2.1.length c2, .slice A3 r.2.2.2.length c3] 47) = w3 at k3 bn ⊢
     obtain ⟨⟨y0, y1, y2, y3⟩, _⟩ := Rl.four_cells k3
     have HB3 := Lib.hid (below_next HB2.out bn)
     have HBW3 := Lib.hid (below_next HBR.out HB3.out)
     have s30 := (HBW3.out.cell (p := ⟨w.heap.size, 0, none⟩) hs0).trans HP0.out
     have s31 := (HBW3.out.cell (p := ⟨w.heap.size, 1, none⟩) hs0).trans HP1.out
     have HQ1 := Lib.hid (Rl.keeps_sl Rl.keeps_tok _ _ _ _ HG1.out bn)
     have HQ2 := Lib.hid (Rl.keeps_sl (Rl.keeps_dec true) _ _ _ _ HG2.out bn)
     have HQ3 := Lib.hid (Rl.keeps_sl (Rl.keeps_mar true) _ _ _ _ HG3.out bn)
     have HGr := Lib.hid (HG.out.next (Rl.keeps_rul true) HB3.out)
     clear k3 bn q0 HG1 HG2 HG3
     cases bb
     ·have HN : Hid (Rl.prs sd ts 0 = rs ++ Rl.prs sd ts n9) := Lib.hid (by rw [HV.out, HPR.out, HRES.out]; rfl)
      clear HV HPR HRES CR CE
      go_wp2_with (go_at_call 55; ((with_reducible refine (CS.out _ HBW3.out).mono ?_); rintro e w9 ⟨rfl, b9⟩; have HB9 := Lib.hid b9; clear b9))
      go_roundw
      case rel => exact ⟨n9, rs, by omega, by omega, by go_num, HN, Lib.hid (HGr.out.next (Rl.keeps_rul true) HB9.out)⟩
      case measure => simp [RowKit.intOf]; omega
     ·have HN : Hid (Rl.prs sd ts 0 = (rs ++ [r]) ++ Rl.prs sd ts n9) := Lib.hid (by rw [HV.out, HPR.out, HRES.out]; simp)
      have hdl : (rs ++ [r]).length <= n9 := by rw [List.length_append]; simp only [List.length_cons, List.length_nil]; omega
      clear HV HPR HRES CR CE
      go_wp2_with (first | (at_builtin; refine app_rul rfl _ _ rfl rfl HGr.out r _ _ _ HQ1.out HQ2.out HQ3.out _ _ rfl (by omega) ?_; intro v' w4 G1; have HG4 := Lib.hid G1; have HBW4 := Lib.hid G1.bel; have s40 := (HBW4.out.cell (p := ⟨w.heap.size, 0, none⟩) hs0).trans HP0.out; have s41 := (HBW4.out.cell (p := ⟨w.heap.size, 1, none⟩) hs0).trans HP1.out; clear G1) | (go_at_call 55; ((with_reducible refine (CS.out _ HBW4.out).mono ?_); rintro e w9 ⟨rfl, b9⟩; have HB9 := Lib.hid b9; clear b9)))
      go_roundw
      case rel => exact ⟨n9, rs ++ [r], by omega, hdl, by go_num, HN, Lib.hid (HG4.out.next (Rl.keeps_rul true) HB9.out)⟩
      case measure => simp [RowKit.intOf]; omega
  ·have HN : Hid (Rl.prs sd ts 0 = rs) := Lib.hid (by rw [HV.out, Rl.prs_end sd ts hlt, List.append_nil])
   have HR := Lib.hid (toldRs_of HB0.out HG.out)
   clear HV HG
   go_wp2_with fail
   go_ret
   rw [HP0'.out, HN.out]; exact HR.out
def ParC (sd : List Tk.Tok -> Bool) (ts : List Tk.Tok) (l : List Rl.Rule) (er : Int) : Prop :=
 (Ns.deep ts /\ l = [] /\ er = 3) ∨ (¬ Ns.deep ts /\ 1024 < (Rl.parse sd ts).length /\ l = [] /\ er = 2) ∨ (¬ Ns.deep ts /\ (Rl.parse sd ts).length <= 1024 /\ l = Rl.parse sd ts /\ er = 0)
theorem cparse_any (sd : List Tk.Tok -> Bool) (hsd : SdK sd) (ts : List Tk.Tok) (hF : Pr.FairB ts) (hwf : Pr.Wf ts) (l : List Rl.Rule) (er : Int) (hl : ParC sd ts l er) (A0 : Option Addr) (n0 cap0 : Nat) (w : World) (hT : PTab w.heap.size w) (hB : BTab w.heap.size w)
 (hS : Calls Tryz.prog 27 #[.slice A0 n0 cap0] w (Told3 ts w)) : Calls Tryz.prog 10 #[.slice A0 n0 cap0] w (ToldR l er w) := by
 have hm := hF.1
 have CS := Lib.hid hS
 have HL := Lib.hid hl
 have HT := Lib.hid hT
 have HB := Lib.hid hB
 have CE : Hid (∀ (A : Option Addr) (c : Nat) (W : World), Ts W W.heap.size A ts -> Calls Tryz.prog 28 #[.slice A ts.length c] W (EndsIs ts W)) := Lib.hid fun A c W h => nends_code ts (by omega) A c W h
 clear hS hl hT hB
 by_cases hd : Ns.deep ts
 ·have HV : Hid (l = [] /\ er = 3) := Lib.hid (by rcases HL.out with h | h | h; exact h.2; exact absurd hd h.1; exact absurd hd h.1)
  have CE2 : Hid (∀ (A : Option Addr) (c : Nat) (W : World), Ts W W.heap.size A ts -> Calls Tryz.prog 28 #[.slice A ts.length c] W (EndsBad W)) := Lib.hid fun A c W h => (CE.out A c W h).mono fun e w' h => h.2 hd
  clear CE hF hsd HL hwf
  go_enter Tryz.func10, Tryz.ntmps10
  go_wp2_with (first | (go_at_call 27; ((with_reducible refine (CS.out).mono ?_); rintro e w1 ⟨A1, c1, rfl, hc1, T1, b1⟩; have HB1 := Lib.hid b1; have HT1 := Lib.hid T1; clear b1 T1)) | (go_at_call 28; ((with_reducible refine (CE2.out _ _ _ HT1.out).mono ?_); rintro e w2 ⟨rfl, b2⟩; have HB2 := Lib.hid (below_next HB1.out b2); clear b2)))
  go_ret2
  obtain ⟨e1, e2⟩ := HV.out
  subst e1 e2
  exact told_none 3 HB2.out
 ·have CE2 : Hid (∀ (A : Option Addr) (c : Nat) (W : World), Ts W W.heap.size A ts -> Calls Tryz.prog 28 #[.slice A ts.length c] W (EndsRd ts W)) := Lib.hid fun A c W h => (CE.out A c W h).mono fun e w' h => ends_rd (h.1 hd)
  have CR : Hid (∀ (A C : Option Addr) (ca cc : Nat) (W : World), Sh ts A ca C W -> PTab W.heap.size W -> BTab W.heap.size W -> Calls Tryz.prog 29 #[.agg #[.slice A ts.length ca, .slice C (Ns.ends ts).length cc]] W (ToldRs (Rl.parse sd ts) W)) := Lib.hid fun A C ca cc W h hT hB => srules_any sd hsd ts hF hwf A C ca cc W h hT hB
  by_cases hlen : 1024 < (Rl.parse sd ts).length
  ·have HV : Hid (l = [] /\ er = 2) := Lib.hid (by rcases HL.out with h | h | h; exact absurd h.1 hd; exact h.2.2; exact absurd h.2.1 (by omega))
   have d1 : decide ((1024 : Int) < ((Rl.parse sd ts).length : Int)) = true := decide_eq_true (by omega)
   clear CE hF hsd HL hwf
   generalize Rl.parse sd ts = rl at *
   go_enter Tryz.func10, Tryz.ntmps10
   go_wp2_with (first | (go_at_call 27; ((with_reducible refine (CS.out).mono ?_); rintro e w1 ⟨A1, c1, rfl, hc1, T1, b1⟩; have HB1 := Lib.hid b1; have HT1 := Lib.hid T1; clear b1 T1)) | (go_at_call 28; ((with_reducible refine (CE2.out _ _ _ HT1.out).mono ?_); rintro e w2 ⟨A2, c2, rfl, hc2, B2, b2⟩; have HB2 := Lib.hid (below_next HB1.out b2); have HSh : Hid (Sh ts A1 c1 A2 w2) := Lib.hid ⟨HT1.out.next b2, B2, hc1⟩; clear b2 B2)) | (go_at_call 29; ((with_reducible refine (CR.out _ _ _ _ _ HSh.out (HT.out.next HB2.out) (HB.out.next HB2.out)).mono ?_); rintro e w3 ⟨A3, c3, rfl, hc3, C3, Y3, b3⟩; have HB3 := Lib.hid (below_next HB2.out b3); clear b3 C3 Y3)))
   go_ret2
   obtain ⟨e1, e2⟩ := HV.out
   subst e1 e2
   exact told_none 2 HB3.out
  ·have HV : Hid (l = Rl.parse sd ts /\ er = 0) := Lib.hid (by rcases HL.out with h | h | h; exact absurd h.1 hd; exact absurd h.2.1 hlen; exact h.2.2)
   have d1 : decide ((1024 : Int) < ((Rl.parse sd ts).length : Int)) = false := decide_eq_false (by omega)
   clear CE hF hsd HL hwf
   generalize Rl.parse sd ts = rl at *
   go_enter Tryz.func10, Tryz.ntmps10
   go_wp2_with (first | (go_at_call 27; ((with_reducible refine (CS.out).mono ?_); rintro e w1 ⟨A1, c1, rfl, hc1, T1, b1⟩; have HB1 := Lib.hid b1; have HT1 := Lib.hid T1; clear b1 T1)) | (go_at_call 28; ((with_reducible refine (CE2.out _ _ _ HT1.out).mono ?_); rintro e w2 ⟨A2, c2, rfl, hc2, B2, b2⟩; have HB2 := Lib.hid (below_next HB1.out b2); have HSh : Hid (Sh ts A1 c1 A2 w2) := Lib.hid ⟨HT1.out.next b2, B2, hc1⟩; clear b2 B2)) | (go_at_call 29; ((with_reducible refine (CR.out _ _ _ _ _ HSh.out (HT.out.next HB2.out) (HB.out.next HB2.out)).mono ?_); rintro e w3 ⟨A3, c3, rfl, hc3, C3, Y3, b3⟩; have HB3 := Lib.hid (below_next HB2.out b3); have HC3 := Lib.hid C3; have HY3 := Lib.hid Y3; clear b3 C3 Y3)))
   go_ret2
   obtain ⟨e1, e2⟩ := HV.out
   subst e1 e2
   exact ⟨A3, c3, rfl, hc3, HC3.out, HY3.out, HB3.out⟩
end Go.Proofs.YtllmjggejbdpcaaGreatDoor
