/-
  Plain words: a declaration as package rules finds it: its parts trimmed one by one. No run of the program in this text.
-/
import Derived.Test.YtllmjggejbdpcaaGreatDoorGaf
import Derived.Test.YtllmjggejbdpcaaGreatDoorGah
import Derived.Test.YtllmjggejbdpcaaGreatDoorGag
set_option maxHeartbeats 16000000
set_option maxRecDepth 100000
namespace Go.Proofs.YtllmjggejbdpcaaGreatDoor
open Go.RowKit
namespace Rl
open Tk Ns
theorem rear_cons {t : Tok} (l : List Tok) (h : sp t = false) : rear (t :: l) = t :: rear l := by
 unfold rear
 rw [List.reverse_cons, List.dropWhile_append]
 have e : List.dropWhile sp [t] = [t] := by rw [List.dropWhile_cons, h]; rfl
 rw [e]
 generalize l.reverse.dropWhile sp = d
 cases d with
 | nil => rfl
 | cons x d => simp
theorem lead_spaces : ∀ {A : List Tok} (l : List Tok), (∀ x ∈ A, sp x = true) -> lead (A ++ l) = lead l
 | [], l, _ => rfl
 | x :: A, l, h => by
   rw [List.cons_append, lead_cons, if_pos (h x (by simp))]
   exact lead_spaces l fun y hy => h y (List.mem_cons_of_mem _ hy)
theorem rear_spaces {B : List Tok} (l : List Tok) (h : ∀ x ∈ B, sp x = true) : rear (l ++ B) = rear l := by
 have h2 : ∀ x ∈ B.reverse, sp x = true := fun x hx => h x (List.mem_reverse.1 hx)
 have := lead_spaces (A := B.reverse) l.reverse h2
 unfold lead at this
 unfold rear
 rw [List.reverse_append, this]
theorem rear_all {A : List Tok} (h : ∀ x ∈ A, sp x = true) : rear A = [] := by
 have := rear_spaces (B := A) [] h
 rwa [List.nil_append, rear_nil] at this
theorem lead_rear (r : List Tok) : lead (rear r) = trim r := by
 obtain ⟨A, B, e, hA, hB⟩ := trim_part r
 have hE := trim_edge r
 generalize trim r = T at *
 rw [e, rear_spaces _ hB]
 cases hT : T with
 | nil => rw [List.append_nil, rear_all hA, lead_nil]
 | cons t q =>
   have h1 : rear (A ++ t :: q) = A ++ t :: q := rear_id (fun x hx => by
    rw [List.getLast?_append] at hx
    have hq : (t :: q).getLast? = some ((t :: q).getLast (by simp)) := List.getLast?_eq_some_getLast (by simp)
    rw [hq] at hx
    refine hE.2 x ?_
    rw [hT, hq]
    simpa using hx)
   rw [h1, lead_spaces _ hA, <- hT]
   exact lead_id hE.1
theorem trim_rear (r : List Tok) : trim (rear r) = trim r := by
 unfold trim
 rw [lead_rear]
 exact rear_id (fun x hx => (trim_edge r).2 x hx)
theorem trA_stop {ts : List Tok} {b : Nat} : ∀ (m a : Nat), b - a <= m -> trA ts b a < b -> (tk ts (trA ts b a)).1 ≠ 1
 | m, a, hm, h => by
   by_cases c : a < b /\ (tk ts a).1 = 1
   ·rw [trA_on c] at h ⊢
    match m, hm with
    | 0, hm => omega
    | m + 1, hm => exact trA_stop m (a + 1) (by omega) h
   ·rw [trA_end c] at h ⊢
    exact fun e => c ⟨h, e⟩
theorem declL_at {sd : List Tok -> Bool} {ts : List Tok} {a b : Nat} (hab : a < b) (hb : b <= ts.length) (h1 : (tk ts a).1 ≠ 1) :
 declL sd (sub ts a b) = if (tk ts a).1 = 2 /\ trA ts b (a + 1) < b /\ (tk ts (trA ts b (a + 1))).1 = 14 then
  (if sd (value (trim (sub ts (trA ts b (a + 1) + 1) b))).1 = true then some (Ru.lowS (tk ts a).2.1, (value (trim (sub ts (trA ts b (a + 1) + 1) b))).1, (value (trim (sub ts (trA ts b (a + 1) + 1) b))).2) else none) else none := by
 have hs : sp (tk ts a) = false := decide_eq_false h1
 have e1 : trim (sub ts a b) = tk ts a :: rear (sub ts (a + 1) b) := by
  unfold trim
  rw [sub_cons hab hb, lead_cons, if_neg (by rw [hs]; decide), rear_cons _ hs]
 have e2 : lead (rear (sub ts (a + 1) b)) = rear (sub ts (trA ts b (a + 1)) b) := by
  rw [lead_rear, trim, lead_sub hb _ (a + 1) (Nat.le_refl _) (by omega)]
 have hbd := trA_bd ts (b := b) _ (a + 1) (Nat.le_refl _) (by omega)
 have hst := trA_stop (ts := ts) (b := b) _ (a + 1) (Nat.le_refl _)
 unfold declL
 rw [e1, declN, e2]
 generalize trA ts b (a + 1) = x at *
 by_cases h2 : (tk ts a).1 = 2
 ·rw [if_pos h2]
  by_cases hx : x < b
  ·have hsx : sp (tk ts x) = false := decide_eq_false (hst hx)
   rw [sub_cons hx hb, rear_cons _ hsx, declV, trim_rear]
   by_cases h14 : (tk ts x).1 = 14
   ·have hc : (tk ts a).1 = 2 /\ x < b /\ (tk ts x).1 = 14 := ⟨h2, hx, h14⟩
    rw [if_pos hc]
    by_cases hsd : sd (value (trim (sub ts (x + 1) b))).1 = true
    ·have hn : (tk ts x).1 = 14 /\ sd (value (trim (sub ts (x + 1) b))).1 = true := ⟨h14, hsd⟩
     rw [if_pos hn, if_pos hsd]
    ·have hn : ¬ ((tk ts x).1 = 14 /\ sd (value (trim (sub ts (x + 1) b))).1 = true) := fun c => hsd c.2
     rw [if_neg hn, if_neg hsd]
   ·have hn : ¬ ((tk ts x).1 = 14 /\ sd (value (trim (sub ts (x + 1) b))).1 = true) := fun c => h14 c.1
    have hn2 : ¬ ((tk ts a).1 = 2 /\ x < b /\ (tk ts x).1 = 14) := fun c => h14 c.2.2
    rw [if_neg hn, if_neg hn2]
  ·rw [sub_low (by omega), rear_nil, declV, if_neg (fun c => hx c.2.1)]
 ·rw [if_neg h2, if_neg (fun c => h2 c.1)]
end Rl
theorem set3_belowK {w w1 : World} {k : Nat} (h : Below w.heap.size w w1) (hk : w.heap.size <= k) (x y z : Value) : Below w.heap.size w (((w1.setCell ⟨k, 0, none⟩ x).setCell ⟨k, 1, none⟩ y).setCell ⟨k, 2, none⟩ z) :=
 ((h.setCell hk _).setCell hk _).setCell hk _
theorem two_new (w : World) (o p : Obj) : Below w.heap.size w ((w.alloc o).alloc p) /\ ((w.alloc o).alloc p).heap[w.heap.size]? = some o /\ ((w.alloc o).alloc p).heap[w.heap.size + 1]? = some p /\ w.heap.size + 1 < ((w.alloc o).alloc p).heap.size := by
 have hs : (w.alloc o).heap.size = w.heap.size + 1 := by simp
 have h1 := (Below.refl (w.alloc o).heap.size (w.alloc o)).alloc (Nat.le_refl _) p
 refine ⟨((Below.refl _ _).alloc (Nat.le_refl _) o).alloc (by simp) p, below_block h1 (heap_alloc_new w o), ?_, by simp⟩
 rw [<- hs]; exact heap_alloc_new _ p
theorem wf_sub {ts : List Tk.Tok} (h : Pr.Wf ts) {us : List Tk.Tok} (hs : ∀ t ∈ us, t ∈ ts) : Pr.Wf us := fun j hj => by
 have h1 := hs _ (List.getElem_mem hj)
 obtain ⟨i, hi, e⟩ := List.mem_iff_getElem.1 h1
 have := h i hi
 rw [Tk.tk_eq hi, e] at this
 rw [Tk.tk_eq hj]; exact this
theorem fair_sub {ts : List Tk.Tok} (h : Pr.FairB ts) {us : List Tk.Tok} (hl : us.length <= ts.length) (hs : ∀ t ∈ us, t ∈ ts) : Pr.FairB us := ⟨Nat.le_trans hl h.1, fun j hj => by
 have h1 := hs _ (List.getElem_mem hj)
 obtain ⟨i, hi, e⟩ := List.mem_iff_getElem.1 h1
 have := h.2 i hi
 rw [Tk.tk_eq hi, e] at this
 rw [Tk.tk_eq hj]; exact this⟩
theorem sub_le {ts : List Tk.Tok} {x y : Nat} : (Rl.sub ts x y).length <= ts.length := by
 unfold Rl.sub
 rw [List.length_drop, List.length_take]; omega
theorem sdecl_any (sd : List Tk.Tok -> Bool) (hsd : SdK sd) (ts : List Tk.Tok) (hF : Pr.FairB ts) (hwf : Pr.Wf ts) (A C : Option Addr) (ca cc : Nat) (x y : Nat) (hxy : x < y) (hy : y <= ts.length) (h1 : (Tk.tk ts x).1 ≠ 1) (w : World) (h : Sh ts A ca C w) (hT : PTab w.heap.size w) :
 Calls Tryz.prog 169 #[shV A ts.length ca C (Ns.ends ts).length cc, .int .i64 x, .int .i64 y] w (ToldD (Rl.declL sd (Rl.sub ts x y)) w) := by
 have HV := Lib.hid (Rl.declL_at (sd := sd) hxy hy h1)
 generalize Rl.declL sd (Rl.sub ts x y) = res at *
 obtain ⟨W0, hW⟩ : ∃ W0, W0 = (w.alloc (.cells #[.slice A ts.length ca, .slice C (Ns.ends ts).length cc] 58)).alloc zeroDecl := ⟨_, rfl⟩
 obtain ⟨hb0, k0, k1, hs1⟩ := two_new w (.cells #[.slice A ts.length ca, .slice C (Ns.ends ts).length cc] 58) zeroDecl
 rw [<- hW] at hb0 k0 k1 hs1
 obtain ⟨p0, p1⟩ := sh_cells k0
 have hs0 : w.heap.size < W0.heap.size := by omega
 have HB0 := Lib.hid hb0
 have HK0 := Lib.hid k1
 have HW := Lib.hid hW.symm
 have HS := Lib.hid (h.next hb0)
 have HT := Lib.hid (hT.next hb0)
 have hm := hF.1
 have htb := Rl.trA_bd ts (b := y) (y - (x + 1)) (x + 1) (Nat.le_refl _) (by omega)
 have CT : Hid (∀ W, Below W0.heap.size W0 W -> Calls Tryz.prog 102 #[.slice A ts.length ca, .int .i64 ((x : Int) + 1), .int .i64 y] W (Tw (Ns.trA ts y (x + 1)) (Ns.trB ts (Ns.trA ts y (x + 1)) y) W)) := Lib.hid fun W hb => by
  have := ntrim_any ts (by omega) A ca (x + 1) y (by omega) hy W (HS.out.next hb).hts
  rwa [show ((x + 1 : Nat) : Int) = (x : Int) + 1 by omega] at this
 obtain ⟨b, off, rfl, hbb, hp⟩ := HS.out.hts (by omega)
 obtain ⟨q0, q1, _⟩ := hp x (by omega)
 have HP := Lib.hid hp
 have hxl : (x : Int) < (ts.length : Int) := by omega
 clear hb0 k0 k1 hW h hT h1 hp
 unfold shV
 generalize hav : Ns.trB ts (Ns.trA ts y (x + 1)) y = a2 at CT
 clear hav
 generalize Ns.trA ts y (x + 1) = a at *
 by_cases h2 : (Tk.tk ts x).1 = 2
 ·by_cases ha : a < y
  ·have hal : a < ts.length := by omega
   have hali : (a : Int) < (ts.length : Int) := by omega
   have hane : ((a : Int) == (y : Int)) = false := beq_false_of_ne (by omega)
   have hane2 : (a == y) = false := beq_false_of_ne (by omega)
   obtain ⟨r0, _, _⟩ := HP.out a hal
   by_cases h14 : (Tk.tk ts a).1 = 14
   ·rw [if_pos ⟨h2, ha, h14⟩] at HV
    rw [h14] at r0
    rw [h2] at q0
    clear h2 h14
    have hbd2 := Rl.cut_bd (ts := ts) (a := a + 1) (b := y) (by omega)
    have HCT := Lib.hid (Rl.cut_trim (ts := ts) (a := a + 1) (b := y) (by omega) hy)
    have HE := Lib.hid (Rl.trim_edge (Rl.sub ts (a + 1) y))
    have HMem : Hid (∀ t ∈ Rl.trim (Rl.sub ts (a + 1) y), t ∈ ts) := Lib.hid fun t ht => sub_mem (trim_mem ht)
    have HLen : Hid ((Rl.trim (Rl.sub ts (a + 1) y)).length <= ts.length) := Lib.hid (Nat.le_trans (trim_len _) sub_le)
    have CT2 : Hid (∀ W, Below W0.heap.size W0 W -> Calls Tryz.prog 102 #[.slice (some ⟨b, off, none⟩) ts.length ca, .int .i64 ((a : Int) + 1), .int .i64 y] W (Tw (Ns.trA ts y (a + 1)) (Ns.trB ts (Ns.trA ts y (a + 1)) y) W)) := Lib.hid fun W hb => by
     have := ntrim_any ts (by omega) (some ⟨b, off, none⟩) ca (a + 1) y (by omega) hy W (HS.out.next hb).hts
     rwa [show ((a + 1 : Nat) : Int) = (a : Int) + 1 by omega] at this
    have CP : Hid (∀ W, Below W0.heap.size W0 W -> Calls Tryz.prog 101 #[.agg #[.slice (some ⟨b, off, none⟩) ts.length ca, .slice C (Ns.ends ts).length cc], .int .i64 (Ns.trA ts y (a + 1)), .int .i64 (Ns.trB ts (Ns.trA ts y (a + 1)) y)] W (ToldT (Rl.trim (Rl.sub ts (a + 1) y)) W)) := Lib.hid fun W hb => by
     have := spart_any ts (by omega) (some ⟨b, off, none⟩) C ca cc (Ns.trA ts y (a + 1)) (Ns.trB ts (Ns.trA ts y (a + 1)) y) hbd2.2.1 (by omega) W (HS.out.next hb)
     rwa [HCT.out] at this
    have hadd : IntKind.i64.wrap ((a : Int) + 1) = (a : Int) + 1 := IntWalk.i64_in _ (by omega)
    clear HCT hbd2
    generalize Ns.trB ts (Ns.trA ts y (a + 1)) y = c2 at *
    generalize Ns.trA ts y (a + 1) = c1 at *
    generalize Rl.trim (Rl.sub ts (a + 1) y) = v at *
    have hvF : Pr.FairB v := fair_sub hF HLen.out HMem.out
    have hvm := hvF.1
    have CM : Hid (∀ (A : Option Addr) (c : Nat) (W : World), Ts W W.heap.size A v -> Calls Tryz.prog 128 #[.slice A v.length c] W (Nu (Rl.mrk v) W)) := Lib.hid fun A c W hA => marking_any v hvF HE.out A c W hA
    have CN : Hid (∀ W, Below W0.heap.size W0 W -> Calls Tryz.prog 100 #[.agg #[.slice (some ⟨b, off, none⟩) ts.length ca, .slice C (Ns.ends ts).length cc], .int .i64 x] W (Sg (Ru.lowS (Tk.tk ts x).2.1) W)) := Lib.hid fun W hb => sname_any ts hF (some ⟨b, off, none⟩) C ca cc x (by omega) W (HS.out.next hb)
    rcases Rl.mrk_cases HE.out with ⟨hk, hval⟩ | ⟨m, hk, hml, hval⟩
    ·rw [hval] at HV
     rw [hk] at CM
     have CS : Hid (∀ (A : Option Addr) (c : Nat) (W : World), v.length <= c -> Ts W W.heap.size A v -> PTab W.heap.size W -> Calls Tryz.prog 19 #[.slice A v.length c] W (Bo (sd v) W)) := Lib.hid fun A c W hc hA hT => hsd v hvF (wf_sub hwf HMem.out) A c W hc hA hT
     clear hk hval hF hwf hsd hvF HE HMem HLen
     simp only at HV
     generalize sd v = so at *
     generalize Ru.lowS (Tk.tk ts x).2.1 = nm at *
     have tok1 : True := trivial
     go_enter Tryz.func169, Tryz.ntmps169
     go_upto_region 1 with fail
     rw [HW.out]
     clear HW
     go_upto_region 4 with (go_at_call 102; have _t := tok1; ((with_reducible refine (CT.out _ (Below.refl _ _)).mono ?_); rintro e w1 ⟨rfl, b1⟩; have HB1 := Lib.hid b1; have S10 := (HB1.out.cell (p := ⟨w.heap.size, 0, none⟩) hs0).trans p0; have S11 := (HB1.out.cell (p := ⟨w.heap.size, 1, none⟩) hs0).trans p1; have HK1 := Lib.hid (below_block HB1.out HK0.out); obtain ⟨⟨d10, d11, d12⟩, f10, f11, f12⟩ := dec_cells HK1.out; have X1 := (HB1.out.cell (p := ⟨b, off + x * 3, none⟩) hbb).trans q0; have Y1 := (HB1.out.cell (p := ⟨b, off + a * 3, none⟩) hbb).trans r0; clear b1 tok1))
     clear CT
     go_region_held3 (fun w' => w'.cell? ⟨w.heap.size, 0, none⟩ = some (.slice (some ⟨b, off, none⟩) ts.length ca) /\ w'.cell? ⟨w.heap.size, 1, none⟩ = some (.slice C (Ns.ends ts).length cc))
      (first | go_keep | (go_split_ands; exact ⟨(hb9.cell (p := ⟨w.heap.size, 0, none⟩) hs0).trans (by assumption), (hb9.cell (p := ⟨w.heap.size, 1, none⟩) hs0).trans (by assumption)⟩))
      (first | (go_at_call 102; refine (CT2.out _ HB1.out.drew).mono ?_; rintro e w2 ⟨rfl, b2⟩; have hb9 : Below W0.heap.size W0 w2 := HB1.out.drew.trans (b2.mono HB1.out.size); have HB2 := Lib.hid hb9; clear b2) | (go_at_call 101; refine (CP.out _ HB2.out).mono ?_; rintro e w3 ⟨A3, n3, rfl, hc3, T3, b3⟩; have hb9 : Below W0.heap.size W0 w3 := HB2.out.trans (b3.mono HB2.out.size); have HB3 := Lib.hid hb9; have HT3 := Lib.hid T3; have HA3 := Lib.hid T3.1; clear b3 T3))
     cases so
     ·have S30 := (HB3.out.cell (p := ⟨w.heap.size, 0, none⟩) hs0).trans p0; have S31 := (HB3.out.cell (p := ⟨w.heap.size, 1, none⟩) hs0).trans p1; have HK3 := Lib.hid (below_block HB3.out HK0.out); obtain ⟨⟨d30, d31, d32⟩, f30, f31, f32⟩ := dec_cells HK3.out
      go_wp2_with (first | (go_at_call 128; ((with_reducible refine (CM.out _ _ _ HA3.out).mono ?_); rintro e w4 ⟨rfl, b4⟩; have HB4 := Lib.hid (HB3.out.trans (b4.mono HB3.out.size)); have HT4 := Lib.hid (HT3.out.next b4); have HA4 := Lib.hid HT4.out.1; clear b4)) | (go_at_call 19; ((with_reducible refine (CS.out _ _ _ hc3 HA4.out (HT.out.next HB4.out)).mono ?_); rintro e w5 ⟨rfl, b5⟩; have HB5 := Lib.hid (HB4.out.trans (b5.mono HB4.out.size)); have HT5 := Lib.hid (HT4.out.next b5); have S50 := (HB5.out.cell (p := ⟨w.heap.size, 0, none⟩) hs0).trans p0; have S51 := (HB5.out.cell (p := ⟨w.heap.size, 1, none⟩) hs0).trans p1; have HK5 := Lib.hid (below_block HB5.out HK0.out); obtain ⟨⟨d50, d51, d52⟩, f50, f51, f52⟩ := dec_cells HK5.out; clear b5)))
      have hk := set3 HK5.out (.string ⟨#[]⟩) (.slice none 0 0) (.bool false)
      have hbf := set3_belowK (below_next HB0.out HB5.out) (Nat.le_succ _) (.string ⟨#[]⟩) (.slice none 0 0) (.bool false)
      generalize (((w5.setCell ⟨w.heap.size + 1, 0, none⟩ (.string ⟨#[]⟩)).setCell ⟨w.heap.size + 1, 1, none⟩ (.slice none 0 0)).setCell ⟨w.heap.size + 1, 2, none⟩ (.bool false)) = Wf at hk hbf ⊢
      obtain ⟨⟨z0, z1, z2⟩, _⟩ := dec_cells hk
      exact bodyPost_ret (v := .tuple #[.agg #[.string ⟨#[]⟩, .slice none 0 0, .bool false], .bool false]) (by simp [results, Tryz.results169, go_sem, z0, z1, z2]) rfl ⟨(⟨#[]⟩, [], false), false, none, 0, rfl, Nat.le_refl _, ⟨fun h0 => by simp at h0, fun _ _ _ _ hA => by cases hA⟩, hbf, by rw [HV.out]; rfl⟩
     ·have S30 := (HB3.out.cell (p := ⟨w.heap.size, 0, none⟩) hs0).trans p0; have S31 := (HB3.out.cell (p := ⟨w.heap.size, 1, none⟩) hs0).trans p1; have HK3 := Lib.hid (below_block HB3.out HK0.out); obtain ⟨⟨d30, d31, d32⟩, f30, f31, f32⟩ := dec_cells HK3.out
      go_wp2_with (first | (go_at_call 128; ((with_reducible refine (CM.out _ _ _ HA3.out).mono ?_); rintro e w4 ⟨rfl, b4⟩; have HB4 := Lib.hid (HB3.out.trans (b4.mono HB3.out.size)); have HT4 := Lib.hid (HT3.out.next b4); have HA4 := Lib.hid HT4.out.1; clear b4)) | (go_at_call 19; ((with_reducible refine (CS.out _ _ _ hc3 HA4.out (HT.out.next HB4.out)).mono ?_); rintro e w5 ⟨rfl, b5⟩; have HB5 := Lib.hid (HB4.out.trans (b5.mono HB4.out.size)); have HT5 := Lib.hid (HT4.out.next b5); have S50 := (HB5.out.cell (p := ⟨w.heap.size, 0, none⟩) hs0).trans p0; have S51 := (HB5.out.cell (p := ⟨w.heap.size, 1, none⟩) hs0).trans p1; have HK5 := Lib.hid (below_block HB5.out HK0.out); obtain ⟨⟨d50, d51, d52⟩, f50, f51, f52⟩ := dec_cells HK5.out; clear b5)) | (go_at_call 100; ((with_reducible refine (CN.out _ HB5.out).mono ?_); rintro e w6 ⟨rfl, b6⟩; have HB6 := Lib.hid (HB5.out.trans (b6.mono HB5.out.size)); have HT6 := Lib.hid (HT5.out.next b6); have S60 := (HB6.out.cell (p := ⟨w.heap.size, 0, none⟩) hs0).trans p0; have S61 := (HB6.out.cell (p := ⟨w.heap.size, 1, none⟩) hs0).trans p1; have HK6 := Lib.hid (below_block HB6.out HK0.out); obtain ⟨⟨d60, d61, d62⟩, f60, f61, f62⟩ := dec_cells HK6.out; clear b6)))
      have hk := set3 HK6.out (.string nm) (.slice A3 v.length n3) (.bool false)
      have hbf := set3_belowK (below_next HB0.out HB6.out) (Nat.le_succ _) (.string nm) (.slice A3 v.length n3) (.bool false)
      have htf := ts_set3 HT6.out.1 HK6.out (.string nm) (.slice A3 v.length n3) (.bool false)
      have hty := tyd_set3 HT6.out.2 HK6.out (.string nm) (.slice A3 v.length n3) (.bool false)
      rw [<- size_set3 w6 (w.heap.size + 1) (.string nm) (.slice A3 v.length n3) (.bool false)] at htf
      generalize (((w6.setCell ⟨w.heap.size + 1, 0, none⟩ (.string nm)).setCell ⟨w.heap.size + 1, 1, none⟩ (.slice A3 v.length n3)).setCell ⟨w.heap.size + 1, 2, none⟩ (.bool false)) = Wf at hk hbf htf hty ⊢
      obtain ⟨⟨z0, z1, z2⟩, _⟩ := dec_cells hk
      exact bodyPost_ret (v := .tuple #[.agg #[.string nm, .slice A3 v.length n3, .bool false], .bool true]) (by simp [results, Tryz.results169, go_sem, z0, z1, z2]) rfl ⟨(nm, v, false), true, A3, n3, rfl, hc3, ⟨htf, hty⟩, hbf, by rw [HV.out]; rfl⟩
    ·rw [hval] at HV
     rw [hk] at CM
     have CTv : Hid (∀ (A : Option Addr) (c : Nat) (W : World), Ts W W.heap.size A v -> Calls Tryz.prog 102 #[.slice A v.length c, .int .i64 0, .int .i64 m] W (Tw (Ns.trA v m 0) (Ns.trB v (Ns.trA v m 0) m) W)) := Lib.hid fun A c W hA => ntrim_any v (by omega) A c 0 m (Nat.zero_le _) (by omega) W hA
     have hbv := Rl.cut_bd (ts := v) (a := 0) (b := m) (Nat.zero_le _)
     have CQ : Hid (∀ (A : Option Addr) (c : Nat) (W : World), v.length <= c -> Ts W W.heap.size A v -> Calls Tryz.prog 165 #[.slice A v.length c, .int .i64 0, .int .i64 (Ns.trB v (Ns.trA v m 0) m)] W (ToldT (Rl.sub v 0 (Ns.trB v (Ns.trA v m 0) m)) W)) := Lib.hid fun A c W hc hA => part_any v (by omega) A c hc 0 (Ns.trB v (Ns.trA v m 0) m) (Nat.zero_le _) (by omega) W hA
     have huM : ∀ t ∈ Rl.sub v 0 (Ns.trB v (Ns.trA v m 0) m), t ∈ ts := fun t ht => HMem.out t (sub_mem ht)
     have huF : Pr.FairB (Rl.sub v 0 (Ns.trB v (Ns.trA v m 0) m)) := fair_sub hF (Nat.le_trans sub_le HLen.out) huM
     have CS : Hid (∀ (A : Option Addr) (c : Nat) (W : World), (Rl.sub v 0 (Ns.trB v (Ns.trA v m 0) m)).length <= c -> Ts W W.heap.size A (Rl.sub v 0 (Ns.trB v (Ns.trA v m 0) m)) -> PTab W.heap.size W -> Calls Tryz.prog 19 #[.slice A (Rl.sub v 0 (Ns.trB v (Ns.trA v m 0) m)).length c] W (Bo (sd (Rl.sub v 0 (Ns.trB v (Ns.trA v m 0) m))) W)) := Lib.hid fun A c W hc hA hT => hsd _ huF (wf_sub hwf huM) A c W hc hA hT
     have d0 : decide ((0 : Int) <= (m : Int)) = true := decide_eq_true (by omega)
     clear hk hval hF hwf hsd hvF HE HMem HLen huM huF hbv
     simp only at HV
     generalize Rl.sub v 0 (Ns.trB v (Ns.trA v m 0) m) = u at *
     generalize Ns.trB v (Ns.trA v m 0) m = t2 at *
     generalize Ns.trA v m 0 = t1 at *
     generalize sd u = so at *
     generalize Ru.lowS (Tk.tk ts x).2.1 = nm at *
     have tok1 : True := trivial
     go_enter Tryz.func169, Tryz.ntmps169
     go_upto_region 1 with fail
     rw [HW.out]
     clear HW
     go_upto_region 4 with (go_at_call 102; have _t := tok1; ((with_reducible refine (CT.out _ (Below.refl _ _)).mono ?_); rintro e w1 ⟨rfl, b1⟩; have HB1 := Lib.hid b1; have S10 := (HB1.out.cell (p := ⟨w.heap.size, 0, none⟩) hs0).trans p0; have S11 := (HB1.out.cell (p := ⟨w.heap.size, 1, none⟩) hs0).trans p1; have HK1 := Lib.hid (below_block HB1.out HK0.out); obtain ⟨⟨d10, d11, d12⟩, f10, f11, f12⟩ := dec_cells HK1.out; have X1 := (HB1.out.cell (p := ⟨b, off + x * 3, none⟩) hbb).trans q0; have Y1 := (HB1.out.cell (p := ⟨b, off + a * 3, none⟩) hbb).trans r0; clear b1 tok1))
     clear CT
     go_region_held3 (fun w' => w'.cell? ⟨w.heap.size, 0, none⟩ = some (.slice (some ⟨b, off, none⟩) ts.length ca) /\ w'.cell? ⟨w.heap.size, 1, none⟩ = some (.slice C (Ns.ends ts).length cc))
      (first | go_keep | (go_split_ands; exact ⟨(hb9.cell (p := ⟨w.heap.size, 0, none⟩) hs0).trans (by assumption), (hb9.cell (p := ⟨w.heap.size, 1, none⟩) hs0).trans (by assumption)⟩))
      (first | (go_at_call 102; refine (CT2.out _ HB1.out.drew).mono ?_; rintro e w2 ⟨rfl, b2⟩; have hb9 : Below W0.heap.size W0 w2 := HB1.out.drew.trans (b2.mono HB1.out.size); have HB2 := Lib.hid hb9; clear b2) | (go_at_call 101; refine (CP.out _ HB2.out).mono ?_; rintro e w3 ⟨A3, n3, rfl, hc3, T3, b3⟩; have hb9 : Below W0.heap.size W0 w3 := HB2.out.trans (b3.mono HB2.out.size); have HB3 := Lib.hid hb9; have HT3 := Lib.hid T3; have HA3 := Lib.hid T3.1; clear b3 T3))
     have tok2 : True := trivial
     cases so
     ·have S30 := (HB3.out.cell (p := ⟨w.heap.size, 0, none⟩) hs0).trans p0; have S31 := (HB3.out.cell (p := ⟨w.heap.size, 1, none⟩) hs0).trans p1; have HK3 := Lib.hid (below_block HB3.out HK0.out); obtain ⟨⟨d30, d31, d32⟩, f30, f31, f32⟩ := dec_cells HK3.out
      go_wp2_with (first | (go_at_call 128; ((with_reducible refine (CM.out _ _ _ HA3.out).mono ?_); rintro e w4 ⟨rfl, b4⟩; have HB4 := Lib.hid (HB3.out.trans (b4.mono HB3.out.size)); have HT4 := Lib.hid (HT3.out.next b4); have HA4 := Lib.hid HT4.out.1; clear b4)) | (go_at_call 102; have _t := tok2; ((with_reducible refine (CTv.out _ _ _ HA4.out).mono ?_); rintro e w7 ⟨rfl, b7⟩; have HB7 := Lib.hid (HB4.out.trans (b7.mono HB4.out.size)); have HT7 := Lib.hid (HT4.out.next b7); have HA7 := Lib.hid HT7.out.1; clear b7 tok2)) | (go_at_call 165; ((with_reducible refine (CQ.out _ _ _ hc3 HA7.out).mono ?_); rintro e w8 ⟨A8, n8, rfl, hc8, T8, b8⟩; have HB8 := Lib.hid (HB7.out.trans (b8.mono HB7.out.size)); have HT8 := Lib.hid T8; have HA8 := Lib.hid T8.1; clear b8 T8)) | (go_at_call 19; ((with_reducible refine (CS.out _ _ _ hc8 HA8.out (HT.out.next HB8.out)).mono ?_); rintro e w5 ⟨rfl, b5⟩; have HB5 := Lib.hid (HB8.out.trans (b5.mono HB8.out.size)); have HT5 := Lib.hid (HT8.out.next b5); have S50 := (HB5.out.cell (p := ⟨w.heap.size, 0, none⟩) hs0).trans p0; have S51 := (HB5.out.cell (p := ⟨w.heap.size, 1, none⟩) hs0).trans p1; have HK5 := Lib.hid (below_block HB5.out HK0.out); obtain ⟨⟨d50, d51, d52⟩, f50, f51, f52⟩ := dec_cells HK5.out; clear b5)))
      have hk := set3 HK5.out (.string ⟨#[]⟩) (.slice none 0 0) (.bool false)
      have hbf := set3_belowK (below_next HB0.out HB5.out) (Nat.le_succ _) (.string ⟨#[]⟩) (.slice none 0 0) (.bool false)
      generalize (((w5.setCell ⟨w.heap.size + 1, 0, none⟩ (.string ⟨#[]⟩)).setCell ⟨w.heap.size + 1, 1, none⟩ (.slice none 0 0)).setCell ⟨w.heap.size + 1, 2, none⟩ (.bool false)) = Wf at hk hbf ⊢
      obtain ⟨⟨z0, z1, z2⟩, _⟩ := dec_cells hk
      exact bodyPost_ret (v := .tuple #[.agg #[.string ⟨#[]⟩, .slice none 0 0, .bool false], .bool false]) (by simp [results, Tryz.results169, go_sem, z0, z1, z2]) rfl ⟨(⟨#[]⟩, [], false), false, none, 0, rfl, Nat.le_refl _, ⟨fun h0 => by simp at h0, fun _ _ _ _ hA => by cases hA⟩, hbf, by rw [HV.out]; rfl⟩
     ·have S30 := (HB3.out.cell (p := ⟨w.heap.size, 0, none⟩) hs0).trans p0; have S31 := (HB3.out.cell (p := ⟨w.heap.size, 1, none⟩) hs0).trans p1; have HK3 := Lib.hid (below_block HB3.out HK0.out); obtain ⟨⟨d30, d31, d32⟩, f30, f31, f32⟩ := dec_cells HK3.out
      go_wp2_with (first | (go_at_call 128; ((with_reducible refine (CM.out _ _ _ HA3.out).mono ?_); rintro e w4 ⟨rfl, b4⟩; have HB4 := Lib.hid (HB3.out.trans (b4.mono HB3.out.size)); have HT4 := Lib.hid (HT3.out.next b4); have HA4 := Lib.hid HT4.out.1; clear b4)) | (go_at_call 102; have _t := tok2; ((with_reducible refine (CTv.out _ _ _ HA4.out).mono ?_); rintro e w7 ⟨rfl, b7⟩; have HB7 := Lib.hid (HB4.out.trans (b7.mono HB4.out.size)); have HT7 := Lib.hid (HT4.out.next b7); have HA7 := Lib.hid HT7.out.1; clear b7 tok2)) | (go_at_call 165; ((with_reducible refine (CQ.out _ _ _ hc3 HA7.out).mono ?_); rintro e w8 ⟨A8, n8, rfl, hc8, T8, b8⟩; have HB8 := Lib.hid (HB7.out.trans (b8.mono HB7.out.size)); have HT8 := Lib.hid T8; have HA8 := Lib.hid T8.1; clear b8 T8)) | (go_at_call 19; ((with_reducible refine (CS.out _ _ _ hc8 HA8.out (HT.out.next HB8.out)).mono ?_); rintro e w5 ⟨rfl, b5⟩; have HB5 := Lib.hid (HB8.out.trans (b5.mono HB8.out.size)); have HT5 := Lib.hid (HT8.out.next b5); have S50 := (HB5.out.cell (p := ⟨w.heap.size, 0, none⟩) hs0).trans p0; have S51 := (HB5.out.cell (p := ⟨w.heap.size, 1, none⟩) hs0).trans p1; have HK5 := Lib.hid (below_block HB5.out HK0.out); obtain ⟨⟨d50, d51, d52⟩, f50, f51, f52⟩ := dec_cells HK5.out; clear b5)) | (go_at_call 100; ((with_reducible refine (CN.out _ HB5.out).mono ?_); rintro e w6 ⟨rfl, b6⟩; have HB6 := Lib.hid (HB5.out.trans (b6.mono HB5.out.size)); have HT6 := Lib.hid (HT5.out.next b6); have S60 := (HB6.out.cell (p := ⟨w.heap.size, 0, none⟩) hs0).trans p0; have S61 := (HB6.out.cell (p := ⟨w.heap.size, 1, none⟩) hs0).trans p1; have HK6 := Lib.hid (below_block HB6.out HK0.out); obtain ⟨⟨d60, d61, d62⟩, f60, f61, f62⟩ := dec_cells HK6.out; clear b6)))
      have hk := set3 HK6.out (.string nm) (.slice A8 u.length n8) (.bool true)
      have hbf := set3_belowK (below_next HB0.out HB6.out) (Nat.le_succ _) (.string nm) (.slice A8 u.length n8) (.bool true)
      have htf := ts_set3 HT6.out.1 HK6.out (.string nm) (.slice A8 u.length n8) (.bool true)
      have hty := tyd_set3 HT6.out.2 HK6.out (.string nm) (.slice A8 u.length n8) (.bool true)
      rw [<- size_set3 w6 (w.heap.size + 1) (.string nm) (.slice A8 u.length n8) (.bool true)] at htf
      generalize (((w6.setCell ⟨w.heap.size + 1, 0, none⟩ (.string nm)).setCell ⟨w.heap.size + 1, 1, none⟩ (.slice A8 u.length n8)).setCell ⟨w.heap.size + 1, 2, none⟩ (.bool true)) = Wf at hk hbf htf hty ⊢
      obtain ⟨⟨z0, z1, z2⟩, _⟩ := dec_cells hk
      exact bodyPost_ret (v := .tuple #[.agg #[.string nm, .slice A8 u.length n8, .bool true], .bool true]) (by simp [results, Tryz.results169, go_sem, z0, z1, z2]) rfl ⟨(nm, u, true), true, A8, n8, rfl, hc8, ⟨htf, hty⟩, hbf, by rw [HV.out]; rfl⟩
   ·have hn : ((Tk.tk ts a).1 != 14) = true := Ru.ne_t h14
    have hne : ((Tk.tk ts a).1 == 14) = false := beq_false_of_ne h14
    rw [if_neg (fun c => h14 c.2.2)] at HV
    rw [h2] at q0
    clear h2 h14 hsd hF hwf
    generalize (Tk.tk ts a).1 = ka at *
    have tok1 : True := trivial
    go_enter Tryz.func169, Tryz.ntmps169
    go_upto_region 1 with fail
    rw [HW.out]
    clear HW
    go_wp2_with (go_at_call 102; have _t := tok1; ((with_reducible refine (CT.out _ (Below.refl _ _)).mono ?_); rintro e w1 ⟨rfl, b1⟩; have HB1 := Lib.hid b1; have S10 := (HB1.out.cell (p := ⟨w.heap.size, 0, none⟩) hs0).trans p0; have S11 := (HB1.out.cell (p := ⟨w.heap.size, 1, none⟩) hs0).trans p1; have HK1 := Lib.hid (below_block HB1.out HK0.out); obtain ⟨⟨d10, d11, d12⟩, f10, f11, f12⟩ := dec_cells HK1.out; have X1 := (HB1.out.cell (p := ⟨b, off + x * 3, none⟩) hbb).trans q0; have Y1 := (HB1.out.cell (p := ⟨b, off + a * 3, none⟩) hbb).trans r0; clear b1 tok1))
    have hk := set3 HK1.out (.string ⟨#[]⟩) (.slice none 0 0) (.bool false)
    have hbf := set3_belowK (below_next HB0.out HB1.out) (Nat.le_succ _) (.string ⟨#[]⟩) (.slice none 0 0) (.bool false)
    generalize (((w1.setCell ⟨w.heap.size + 1, 0, none⟩ (.string ⟨#[]⟩)).setCell ⟨w.heap.size + 1, 1, none⟩ (.slice none 0 0)).setCell ⟨w.heap.size + 1, 2, none⟩ (.bool false)) = Wf at hk hbf ⊢
    obtain ⟨⟨z0, z1, z2⟩, _⟩ := dec_cells hk
    exact bodyPost_ret (v := .tuple #[.agg #[.string ⟨#[]⟩, .slice none 0 0, .bool false], .bool false]) (by simp [results, Tryz.results169, go_sem, z0, z1, z2]) rfl ⟨(⟨#[]⟩, [], false), false, none, 0, rfl, Nat.le_refl _, ⟨fun h0 => by simp at h0, fun _ _ _ _ hA => by cases hA⟩, hbf, by rw [HV.out]; rfl⟩
  ·have haeq : a = y := by omega
   subst haeq
   rw [if_neg (fun c => ha c.2.1)] at HV
   rw [h2] at q0
   clear h2 ha hsd hF hwf
   have tok1 : True := trivial
   go_enter Tryz.func169, Tryz.ntmps169
   go_upto_region 1 with fail
   rw [HW.out]
   clear HW
   go_wp2_with (go_at_call 102; have _t := tok1; ((with_reducible refine (CT.out _ (Below.refl _ _)).mono ?_); rintro e w1 ⟨rfl, b1⟩; have HB1 := Lib.hid b1; have S10 := (HB1.out.cell (p := ⟨w.heap.size, 0, none⟩) hs0).trans p0; have S11 := (HB1.out.cell (p := ⟨w.heap.size, 1, none⟩) hs0).trans p1; have HK1 := Lib.hid (below_block HB1.out HK0.out); obtain ⟨⟨d10, d11, d12⟩, f10, f11, f12⟩ := dec_cells HK1.out; have X1 := (HB1.out.cell (p := ⟨b, off + x * 3, none⟩) hbb).trans q0; clear b1 tok1))
   have hk := set3 HK1.out (.string ⟨#[]⟩) (.slice none 0 0) (.bool false)
   have hbf := set3_belowK (below_next HB0.out HB1.out) (Nat.le_succ _) (.string ⟨#[]⟩) (.slice none 0 0) (.bool false)
   generalize (((w1.setCell ⟨w.heap.size + 1, 0, none⟩ (.string ⟨#[]⟩)).setCell ⟨w.heap.size + 1, 1, none⟩ (.slice none 0 0)).setCell ⟨w.heap.size + 1, 2, none⟩ (.bool false)) = Wf at hk hbf ⊢
   obtain ⟨⟨z0, z1, z2⟩, _⟩ := dec_cells hk
   exact bodyPost_ret (v := .tuple #[.agg #[.string ⟨#[]⟩, .slice none 0 0, .bool false], .bool false]) (by simp [results, Tryz.results169, go_sem, z0, z1, z2]) rfl ⟨(⟨#[]⟩, [], false), false, none, 0, rfl, Nat.le_refl _, ⟨fun h0 => by simp at h0, fun _ _ _ _ hA => by cases hA⟩, hbf, by rw [HV.out]; rfl⟩
 ·have hn : ((Tk.tk ts x).1 != 2) = true := Ru.ne_t h2
  have hne : ((Tk.tk ts x).1 == 2) = false := beq_false_of_ne h2
  rw [if_neg (fun c => h2 c.1)] at HV
  clear h2 hsd hF hwf
  generalize (Tk.tk ts x).1 = kx at *
  have tok1 : True := trivial
  go_enter Tryz.func169, Tryz.ntmps169
  go_upto_region 1 with fail
  rw [HW.out]
  clear HW
  go_wp2_with (go_at_call 102; have _t := tok1; ((with_reducible refine (CT.out _ (Below.refl _ _)).mono ?_); rintro e w1 ⟨rfl, b1⟩; have HB1 := Lib.hid b1; have S10 := (HB1.out.cell (p := ⟨w.heap.size, 0, none⟩) hs0).trans p0; have S11 := (HB1.out.cell (p := ⟨w.heap.size, 1, none⟩) hs0).trans p1; have HK1 := Lib.hid (below_block HB1.out HK0.out); obtain ⟨⟨d10, d11, d12⟩, f10, f11, f12⟩ := dec_cells HK1.out; have X1 := (HB1.out.cell (p := ⟨b, off + x * 3, none⟩) hbb).trans q0; clear b1 tok1))
  have hk := set3 HK1.out (.string ⟨#[]⟩) (.slice none 0 0) (.bool false)
  have hbf := set3_belowK (below_next HB0.out HB1.out) (Nat.le_succ _) (.string ⟨#[]⟩) (.slice none 0 0) (.bool false)
  generalize (((w1.setCell ⟨w.heap.size + 1, 0, none⟩ (.string ⟨#[]⟩)).setCell ⟨w.heap.size + 1, 1, none⟩ (.slice none 0 0)).setCell ⟨w.heap.size + 1, 2, none⟩ (.bool false)) = Wf at hk hbf ⊢
  obtain ⟨⟨z0, z1, z2⟩, _⟩ := dec_cells hk
  exact bodyPost_ret (v := .tuple #[.agg #[.string ⟨#[]⟩, .slice none 0 0, .bool false], .bool false]) (by simp [results, Tryz.results169, go_sem, z0, z1, z2]) rfl ⟨(⟨#[]⟩, [], false), false, none, 0, rfl, Nat.le_refl _, ⟨fun h0 => by simp at h0, fun _ _ _ _ hA => by cases hA⟩, hbf, by rw [HV.out]; rfl⟩
def Rl.mgB (ts : List Tk.Tok) (a e : Nat) : Bool := Rl.brB (Tk.tk ts e) && (decide (0 <= Rl.box (Ru.lowS (Tk.tk ts a).2.1)) && decide (Rl.trim (Rl.sub ts (a + 1) e) = []))
theorem ismargin_any (ts : List Tk.Tok) (hF : Pr.FairB ts) (A C : Option Addr) (ca cc : Nat) (a e : Nat) (hae : a < e) (he : e < ts.length) (w : World) (h : Sh ts A ca C w) (hT : BTab w.heap.size w) :
 Calls Tryz.prog 166 #[shV A ts.length ca C (Ns.ends ts).length cc, .int .i64 a, .int .i64 e] w (Bo (Rl.mgB ts a e) w) := by
 obtain ⟨W0, hW⟩ : ∃ W0, W0 = w.alloc (.cells #[.slice A ts.length ca, .slice C (Ns.ends ts).length cc] 58) := ⟨_, rfl⟩
 have hb0 : Below w.heap.size w W0 := by rw [hW]; exact (Below.refl _ _).alloc (Nat.le_refl _) _
 have k0 : W0.heap[w.heap.size]? = some (.cells #[.slice A ts.length ca, .slice C (Ns.ends ts).length cc] 58 (0, 0)) := by rw [hW]; exact heap_alloc_new w _
 obtain ⟨p0, p1⟩ := sh_cells k0
 have hs0 : w.heap.size < W0.heap.size := by rw [hW]; simp
 have HB0 := Lib.hid hb0
 have HW := Lib.hid hW.symm
 have HS := Lib.hid (h.next hb0)
 have HT := Lib.hid (hT.next hb0)
 have hm := hF.1
 have hbd := Rl.cut_bd (ts := ts) (a := a + 1) (b := e) (by omega)
 have HL : Hid (Rl.trim (Rl.sub ts (a + 1) e) = [] ↔ Ns.trA ts e (a + 1) = Ns.trB ts (Ns.trA ts e (a + 1)) e) := Lib.hid (by
  have h1 := Rl.cut_trim (ts := ts) (a := a + 1) (b := e) (by omega) (by omega)
  have h2 := Rl.sub_len (ts := ts) (a := Ns.trA ts e (a + 1)) (b := Ns.trB ts (Ns.trA ts e (a + 1)) e) (by omega)
  rw [h1] at h2
  rw [<- List.length_eq_zero_iff, h2]
  omega)
 have CT : Hid (∀ W, Below W0.heap.size W0 W -> Calls Tryz.prog 102 #[.slice A ts.length ca, .int .i64 ((a : Int) + 1), .int .i64 e] W (Tw (Ns.trA ts e (a + 1)) (Ns.trB ts (Ns.trA ts e (a + 1)) e) W)) := Lib.hid fun W hb => by
  have := ntrim_any ts (by omega) A ca (a + 1) e (by omega) (by omega) W (HS.out.next hb).hts
  rwa [show ((a + 1 : Nat) : Int) = (a : Int) + 1 by omega] at this
 have CN : Hid (∀ W, Below W0.heap.size W0 W -> Calls Tryz.prog 100 #[.agg #[.slice A ts.length ca, .slice C (Ns.ends ts).length cc], .int .i64 a] W (Sg (Ru.lowS (Tk.tk ts a).2.1) W)) := Lib.hid fun W hb => sname_any ts hF A C ca cc a (by omega) W (HS.out.next hb)
 have hls : (Ru.lowS (Tk.tk ts a).2.1).size <= 90000 := by rw [Ru.lowS_size]; exact tk_size hF (by omega)
 have CX : Hid (∀ W, Below W0.heap.size W0 W -> Calls Tryz.prog 18 #[.string (Ru.lowS (Tk.tk ts a).2.1)] W (Nu (Rl.box (Ru.lowS (Tk.tk ts a).2.1)) W)) := Lib.hid fun W hb => cbox_any _ hls W (HT.out.next hb)
 have CO : Hid (∀ W, Calls Tryz.prog 99 #[.agg #[.int .i64 (Tk.tk ts e).1, .string (Tk.tk ts e).2.1, .int .i64 (Tk.tk ts e).2.2]] W (Bo (Rl.brB (Tk.tk ts e)) W)) := Lib.hid fun W => opensBlock_any _ W
 have HV : Hid (Rl.mgB ts a e = (Rl.brB (Tk.tk ts e) && (decide (0 <= Rl.box (Ru.lowS (Tk.tk ts a).2.1)) && decide (Rl.trim (Rl.sub ts (a + 1) e) = [])))) := Lib.hid rfl
 obtain ⟨b, off, rfl, hbb, hp⟩ := HS.out.hts (by omega)
 obtain ⟨q0, q1, q2⟩ := hp e he
 have hei : (e : Int) < (ts.length : Int) := by omega
 clear hb0 k0 hW h hT hp hF hls
 unfold shV
 generalize Rl.trim (Rl.sub ts (a + 1) e) = T at *
 generalize Rl.mgB ts a e = res at *
 generalize Rl.box (Ru.lowS (Tk.tk ts a).2.1) = bx at *
 generalize Ru.lowS (Tk.tk ts a).2.1 = lo at *
 generalize Rl.brB (Tk.tk ts e) = br at *
 generalize Tk.tk ts e = u at *
 generalize Ns.trB ts (Ns.trA ts e (a + 1)) e = y at *
 generalize Ns.trA ts e (a + 1) = x at *
 cases br
 ·go_enter Tryz.func166, Tryz.ntmps166
  go_upto_region 1 with fail
  rw [HW.out]
  clear HW
  go_wp2_with (first | (go_at_call 102; ((with_reducible refine (CT.out _ (Below.refl _ _)).mono ?_); rintro e1 w1 ⟨rfl, b1⟩; have HB1 := Lib.hid b1; have s0 := (b1.cell (p := ⟨w.heap.size, 0, none⟩) hs0).trans p0; have s1 := (b1.cell (p := ⟨w.heap.size, 1, none⟩) hs0).trans p1; have r0 := (b1.cell (p := ⟨b, off + e * 3, none⟩) hbb).trans q0; have r1 := (b1.cell (p := ⟨b, off + e * 3 + 1, none⟩) hbb).trans q1; have r2 := (b1.cell (p := ⟨b, off + e * 3 + 2, none⟩) hbb).trans q2; clear b1)) | (go_at_call 99; ((with_reducible refine (CO.out _).mono ?_); rintro e2 w2 ⟨rfl, b2⟩; have HB2 := Lib.hid (below_next HB1.out b2); clear b2)))
  go_ret
  exact ⟨by rw [HV.out]; rfl, below_next HB0.out HB2.out⟩
 ·by_cases hx : 0 <= bx
  ·have d0 : decide (0 <= bx) = true := decide_eq_true hx
   have d1 : ((x : Int) == (y : Int)) = decide (T = []) := by
    rw [Bool.eq_iff_iff, beq_iff_eq, decide_eq_true_iff, HL.out]; omega
   have d2 : (x == y) = decide (T = []) := by
    rw [Bool.eq_iff_iff, beq_iff_eq, decide_eq_true_iff, HL.out]
   rw [d0] at HV
   clear hx HL
   generalize decide (T = []) = dt at *
   go_enter Tryz.func166, Tryz.ntmps166
   go_upto_region 1 with fail
   rw [HW.out]
   clear HW
   go_wp2_with (first | (go_at_call 102; ((with_reducible refine (CT.out _ (Below.refl _ _)).mono ?_); rintro e1 w1 ⟨rfl, b1⟩; have HB1 := Lib.hid b1; have s0 := (b1.cell (p := ⟨w.heap.size, 0, none⟩) hs0).trans p0; have s1 := (b1.cell (p := ⟨w.heap.size, 1, none⟩) hs0).trans p1; have r0 := (b1.cell (p := ⟨b, off + e * 3, none⟩) hbb).trans q0; have r1 := (b1.cell (p := ⟨b, off + e * 3 + 1, none⟩) hbb).trans q1; have r2 := (b1.cell (p := ⟨b, off + e * 3 + 2, none⟩) hbb).trans q2; clear b1)) | (go_at_call 99; ((with_reducible refine (CO.out _).mono ?_); rintro e2 w2 ⟨rfl, b2⟩; have HB2 := Lib.hid (below_next HB1.out b2); have t0 := (HB2.out.cell (p := ⟨w.heap.size, 0, none⟩) hs0).trans p0; have t1 := (HB2.out.cell (p := ⟨w.heap.size, 1, none⟩) hs0).trans p1; clear b2)) | (go_at_call 100; ((with_reducible refine (CN.out _ HB2.out).mono ?_); rintro e3 w3 ⟨rfl, b3⟩; have HB3 := Lib.hid (below_next HB2.out b3); clear b3)) | (go_at_call 18; ((with_reducible refine (CX.out _ HB3.out).mono ?_); rintro e4 w4 ⟨rfl, b4⟩; have HB4 := Lib.hid (below_next HB3.out b4); clear b4)))
   go_ret
   exact ⟨by rw [HV.out]; rfl, below_next HB0.out HB4.out⟩
  ·have d0 : decide (0 <= bx) = false := decide_eq_false hx
   rw [d0] at HV
   clear hx HL
   go_enter Tryz.func166, Tryz.ntmps166
   go_upto_region 1 with fail
   rw [HW.out]
   clear HW
   go_wp2_with (first | (go_at_call 102; ((with_reducible refine (CT.out _ (Below.refl _ _)).mono ?_); rintro e1 w1 ⟨rfl, b1⟩; have HB1 := Lib.hid b1; have s0 := (b1.cell (p := ⟨w.heap.size, 0, none⟩) hs0).trans p0; have s1 := (b1.cell (p := ⟨w.heap.size, 1, none⟩) hs0).trans p1; have r0 := (b1.cell (p := ⟨b, off + e * 3, none⟩) hbb).trans q0; have r1 := (b1.cell (p := ⟨b, off + e * 3 + 1, none⟩) hbb).trans q1; have r2 := (b1.cell (p := ⟨b, off + e * 3 + 2, none⟩) hbb).trans q2; clear b1)) | (go_at_call 99; ((with_reducible refine (CO.out _).mono ?_); rintro e2 w2 ⟨rfl, b2⟩; have HB2 := Lib.hid (below_next HB1.out b2); have t0 := (HB2.out.cell (p := ⟨w.heap.size, 0, none⟩) hs0).trans p0; have t1 := (HB2.out.cell (p := ⟨w.heap.size, 1, none⟩) hs0).trans p1; clear b2)) | (go_at_call 100; ((with_reducible refine (CN.out _ HB2.out).mono ?_); rintro e3 w3 ⟨rfl, b3⟩; have HB3 := Lib.hid (below_next HB2.out b3); clear b3)) | (go_at_call 18; ((with_reducible refine (CX.out _ HB3.out).mono ?_); rintro e4 w4 ⟨rfl, b4⟩; have HB4 := Lib.hid (below_next HB3.out b4); clear b4)))
   go_ret
   exact ⟨by rw [HV.out]; rfl, below_next HB0.out HB4.out⟩
namespace Rl
open Tk Ns
theorem set_only {w : World} {g i : Nat} {cs : Array Value} {E : TypeId} {fz : Nat × Nat} (h : w.heap[g]? = some (.cells cs E fz)) (x : Value) : Only E (some g) w (w.setCell ⟨g, i, none⟩ x) := by
 refine ⟨by simp [World.setCell], fun b ks T fz' hb hne => ?_⟩
 have hbg : b ≠ g := by
  rintro rfl
  rw [h] at hb
  injection hb with hb
  injection hb with _ h2 _
  rcases hne with hne | hne
  ·exact hne h2.symm
  ·exact hne rfl
 exact Below.heap_setCell _ _ _ _ hbg
theorem Only.trans {E : TypeId} {g : Option Nat} {w w1 w2 : World} (h1 : Only E g w w1) (h2 : Only E g w1 w2) : Only E g w w2 :=
 ⟨Nat.le_trans h1.1 h2.1, fun b cs T fz hb hne => (h2.2 b cs T fz ((h1.2 b cs T fz hb hne).trans hb) hne).trans (h1.2 b cs T fz hb hne)⟩
theorem four_cells {w : World} {k : Nat} {a b c d : Value} {E : TypeId} (h : w.heap[k]? = some (.cells #[a, b, c, d] E (0, 0))) :
 (w.cell? ⟨k, 0, none⟩ = some a /\ w.cell? ⟨k, 1, none⟩ = some b /\ w.cell? ⟨k, 2, none⟩ = some c /\ w.cell? ⟨k, 3, none⟩ = some d) /\ (w.frozen? ⟨k, 0, none⟩ = false /\ w.frozen? ⟨k, 1, none⟩ = false /\ w.frozen? ⟨k, 2, none⟩ = false /\ w.frozen? ⟨k, 3, none⟩ = false) := by
 refine ⟨?_, ?_⟩
 ·refine ⟨?_, ?_, ?_, ?_⟩ <;> simp [World.cell?, h]
 ·refine ⟨?_, ?_, ?_, ?_⟩ <;> simp [World.frozen?, h]
variable (sd : List Tok -> Bool) (ts : List Tok)
def prs (a : Nat) : List Rule := parseF sd ts (ts.length - a) a
theorem parseF_prs {n a : Nat} (h : ts.length - a <= n) : parseF sd ts n a = prs sd ts a := parse_fuel n (ts.length - a) a h (Nat.le_refl _)
theorem prs_0 : parse sd ts = prs sd ts 0 := rfl
theorem prs_end {a : Nat} (h : ¬ a < ts.length) : prs sd ts a = [] := by
 unfold prs
 rw [show ts.length - a = 0 by omega]; rfl
theorem prs_sp {a : Nat} (h : a < ts.length) (h1 : (tk ts a).1 = 1) : prs sd ts a = prs sd ts (a + 1) := by
 rw [<- parseF_prs sd ts (n := ts.length - a - 1 + 1) (by omega), parseF, if_pos h, if_pos h1, parseF_prs sd ts (by omega)]
theorem endAt_bd {a : Nat} (h : a < ts.length) : a <= endAt ts a /\ endAt ts a <= ts.length := by
 unfold endAt
 have := fo_bd (stB (isAt ts a)) ts (show (if isAt ts a = true then a + 1 else a) <= ts.length by split <;> omega)
 split at this <;> rename_i hh <;> simp only [hh] at this ⊢ <;> first | omega | (simp only [Bool.false_eq_true, if_false, if_true] at this ⊢; omega)
theorem prs_rule {a : Nat} (h : a < ts.length) (h1 : (tk ts a).1 ≠ 1) (hr : isRule sd ts a) (hg : (Ru.g (ends ts) (endAt ts a)).toNat <= ts.length) : prs sd ts a =
 ((if isAt ts a = true then 2 else 1), trim (sub ts (if isAt ts a = true then a + 1 else a) (endAt ts a)), (blk sd ts (isAt ts a) (endAt ts a + 1) (Ru.g (ends ts) (endAt ts a)).toNat).1, (blk sd ts (isAt ts a) (endAt ts a + 1) (Ru.g (ends ts) (endAt ts a)).toNat).2) :: prs sd ts (sk (ends ts) (endAt ts a)) := by
 have hb := endAt_bd ts h
 have hs := sk_gt (ends ts) (endAt ts a)
 rw [<- parseF_prs sd ts (n := ts.length - a - 1 + 1) (by omega), parseF, if_pos h, if_neg h1, if_pos hr, parseF_prs sd ts (by omega), ruleAt, blockF_blk sd ts (by omega)]
theorem prs_no {a : Nat} (h : a < ts.length) (h1 : (tk ts a).1 ≠ 1) (hr : ¬ isRule sd ts a) : prs sd ts a = prs sd ts (sk (ends ts) (endAt ts a)) := by
 have hb := endAt_bd ts h
 have hs := sk_gt (ends ts) (endAt ts a)
 rw [<- parseF_prs sd ts (n := ts.length - a - 1 + 1) (by omega), parseF, if_pos h, if_neg h1, if_neg hr, parseF_prs sd ts (by omega)]
theorem slq_one {α : Type} {oE : Option TypeId} {sz : Nat} {Ra : World -> α -> List Value -> Prop} {W : World} {us : List α} {v : Value} (q : SlQ oE sz Ra W us [v]) : v.oneCell' = true := by
 obtain ⟨A, cap, e, _⟩ := q
 injection e with e
 subst e
 simp [Value.oneCell']
theorem int_one (n : Int) : (Value.int .i64 n).oneCell' = true := by simp [Value.oneCell']
theorem four_one {a b c d : Value} (h1 : a.oneCell' = true) (h2 : b.oneCell' = true) (h3 : c.oneCell' = true) (h4 : d.oneCell' = true) : ∀ y ∈ [a, b, c, d], y.oneCell' = true := fun y hy => by
 simp only [List.mem_cons, List.not_mem_nil, or_false] at hy
 rcases hy with hy | hy | hy | hy <;> rw [hy] <;> assumption
end Rl
theorem Tryz.infoRul : (Tryz.prog.info? 47).map (fun i => (i.zero, i.size, i.bytes)) = some (some (.agg #[.int .i64 0, .slice none 0 0, .slice none 0 0, .slice none 0 0]), 4, 80) := by kernel_rfl
theorem app_rul {ops : Array Oper} {rest : List Oper} {o : Oper} {a : Act} {Q : Exit -> Act -> World -> Prop} {w0 wr : World} {v : Value} {rs : List Rl.Rule} (hgd : o.guard = none) (s x : Operand)
 (ho : o.op = .call { callee := .builtin .append, args := #[s, x], argTypes := #[24, 24] }) (hs : a.eval s = v) (H : Rl.Gr 47 4 (Rl.RulQ true) w0 v rs wr) (r : Rl.Rule) (v1 v2 v3 : Value)
 (q1 : Rl.SlQ (some 70) 3 Rl.TokQ wr r.2.1 [v1]) (q2 : Rl.SlQ (some 42) 3 (Rl.DecQ true) wr r.2.2.1 [v2]) (q3 : Rl.SlQ (some 49) 2 (Rl.MarQ true) wr r.2.2.2 [v3]) (c : Nat) (E' : TypeId)
 (hx : a.eval x = .slice (some ⟨wr.heap.size, 0, none⟩) 1 c) (hm : rs.length <= 1000000)
 (h : ∀ v' w3, Rl.Gr 47 4 (Rl.RulQ true) w0 v' (rs ++ [r]) w3 -> wpList Tryz.prog ops Q rest (a.put o.dst v') w3) :
 wpList Tryz.prog ops Q (o :: rest) a (wr.alloc (.cells #[.int .i64 r.1, v1, v2, v3] E')) := by
 obtain ⟨i0, hi, hz0, hz1, hz2⟩ := info_parts Tryz.infoRul
 have e1 := Rl.slq_one q1
 have e2 := Rl.slq_one q2
 have e3 := Rl.slq_one q3
 exact Rl.Gr.app Rl.kT_rul hgd s x 24 ho i0 _ 80 Tryz.underlying24 hi hz0 hz1 hz2 rfl (by decide) hs H r [.int .i64 r.1, v1, v2, v3]
  ⟨_, _, _, _, rfl, rfl, q1, q2, q3⟩ c E' hx rfl (Rl.four_one (Rl.int_one _) e1 e2 e3) (by unfold maxLen; omega) (by omega) (fun v' w3 h1 _ _ => h v' w3 h1)
def ToldR (l : List Rl.Rule) (er : Int) (w : World) (e : Ending) (w' : World) : Prop :=
 ∃ (A : Option Addr) (cap : Nat), e = .returned (.tuple #[.slice A l.length cap, .int .i64 er]) /\ l.length <= cap /\ Rl.Cells 4 (Rl.RulQ true) w' A l /\ Rl.Tyd (some 47) w' A /\ Below w.heap.size w w'
theorem told_none {w w' : World} (er : Int) (hb : Below w.heap.size w w') : ToldR [] er w (.returned (.tuple #[.slice none 0 0, .int .i64 er])) w' :=
 ⟨none, 0, rfl, Nat.le_refl _, Rl.cells_nil, fun _ _ _ _ hA => by (cases hA), hb⟩
def ToldM (m : Rl.Margin) (w : World) (e : Ending) (w' : World) : Prop :=
 ∃ (A : Option Addr) (c : Nat), e = .returned (.agg #[.string m.1, .slice A m.2.length c]) /\ m.2.length <= c /\ Rl.Cells 3 (Rl.DecQ true) w' A m.2 /\ Rl.Tyd (some 42) w' A /\ (Rl.New w.heap.size A /\ ∀ b off, A = some ⟨b, off, none⟩ -> b < w'.heap.size) /\ Below w.heap.size w w'
abbrev zeroMar : Obj := .cells #[.string ⟨#[]⟩, .slice none 0 0] 49
theorem mar_cells {w : World} {k : Nat} {x0 x1 : Value} {E : TypeId} (h : w.heap[k]? = some (.cells #[x0, x1] E (0, 0))) :
 (w.cell? ⟨k, 0, none⟩ = some x0 /\ w.cell? ⟨k, 1, none⟩ = some x1) /\ (w.frozen? ⟨k, 0, none⟩ = false /\ w.frozen? ⟨k, 1, none⟩ = false) :=
 ⟨sh_cells h, by refine ⟨?_, ?_⟩ <;> simp [World.frozen?, h]⟩
theorem set_mar {w : World} {k : Nat} {a b : Value} {E : TypeId} (h : w.heap[k]? = some (.cells #[a, b] E (0, 0))) (x y : Value) :
 ((w.setCell ⟨k, 0, none⟩ x).setCell ⟨k, 1, none⟩ y).heap[k]? = some (.cells #[x, y] E (0, 0)) /\ Rl.Only E (some k) w ((w.setCell ⟨k, 0, none⟩ x).setCell ⟨k, 1, none⟩ y) /\ ((w.setCell ⟨k, 0, none⟩ x).setCell ⟨k, 1, none⟩ y).heap.size = w.heap.size := by
 have h2 : (w.setCell ⟨k, 0, none⟩ x).heap[k]? = some (.cells #[x, b] E (0, 0)) := by simp [World.setCell, Array.getElem?_modify, h]
 refine ⟨by simp [World.setCell, Array.getElem?_modify, h], (Rl.set_only h x).trans (Rl.set_only h2 y), by simp [World.setCell]⟩
theorem cells_only {w w1 : World} {A : Option Addr} {ds : List Rl.Decl} {E : TypeId} {g : Option Nat} (hne : 42 ≠ E) (hne2 : 70 ≠ E) (hC : Rl.Cells 3 (Rl.DecQ true) w A ds) (hT : Rl.Tyd (some 42) w A) (ho : Rl.Only E g w w1) :
 Rl.Cells 3 (Rl.DecQ true) w1 A ds /\ Rl.Tyd (some 42) w1 A := by
 have h : Rl.SlQ (some 42) 3 (Rl.DecQ true) w ds [.slice A ds.length ds.length] := ⟨A, ds.length, rfl, Nat.le_refl _, hC, hT⟩
 obtain ⟨A', c, e, _, h1, h2⟩ := Rl.kT_sl hne (Rl.kT_dec2 hne2) g w w1 ds _ h ho
 injection e with e
 injection e with e
 subst e
 exact ⟨h1, h2⟩
theorem smargin_any (ts : List Tk.Tok) (hF : Pr.FairB ts) (A C : Option Addr) (ca cc : Nat) (a e : Nat) (ha : a < ts.length) (r : List Rl.Decl × List Rl.Margin) (w : World) (h : Sh ts A ca C w)
 (hI : ∀ W, Below w.heap.size w W -> Calls Tryz.prog 103 #[shV A ts.length ca C (Ns.ends ts).length cc, .int .i64 e, .bool false] W (ToldB r W)) :
 Calls Tryz.prog 167 #[shV A ts.length ca C (Ns.ends ts).length cc, .int .i64 a, .int .i64 e] w (ToldM (Ru.lowS (Tk.tk ts a).2.1, r.1) w) := by
 obtain ⟨W0, hW⟩ : ∃ W0, W0 = (w.alloc (.cells #[.slice A ts.length ca, .slice C (Ns.ends ts).length cc] 58)).alloc zeroMar := ⟨_, rfl⟩
 obtain ⟨hb0, k0, k1, hs1⟩ := two_new w (.cells #[.slice A ts.length ca, .slice C (Ns.ends ts).length cc] 58) zeroMar
 rw [<- hW] at hb0 k0 k1 hs1
 obtain ⟨p0, p1⟩ := sh_cells k0
 have hs0 : w.heap.size < W0.heap.size := by omega
 have HB0 := Lib.hid hb0
 have HK0 := Lib.hid k1
 have HW := Lib.hid hW.symm
 have CN : Hid (∀ W, Below W0.heap.size W0 W -> Calls Tryz.prog 100 #[.agg #[.slice A ts.length ca, .slice C (Ns.ends ts).length cc], .int .i64 a] W (Sg (Ru.lowS (Tk.tk ts a).2.1) W)) := Lib.hid fun W hb => sname_any ts hF A C ca cc a ha W ((h.next hb0).next hb)
 have CB : Hid (Calls Tryz.prog 103 #[.agg #[.slice A ts.length ca, .slice C (Ns.ends ts).length cc], .int .i64 e, .bool false] W0 (ToldB r W0)) := Lib.hid (hI W0 hb0)
 have hwW : w.heap.size <= W0.heap.size := by omega
 clear hb0 k0 k1 hW h hF hI
 obtain ⟨ds, ms⟩ := r
 unfold shV
 generalize Ru.lowS (Tk.tk ts a).2.1 = nm at *
 go_enter Tryz.func167, Tryz.ntmps167
 go_upto_region 1 with fail
 rw [HW.out]
 clear HW
 go_wp2_with (first | (go_at_call 103; ((with_reducible refine (CB.out).mono ?_); rintro e1 w1 ⟨A1, c1, A2, c2, rfl, hc1, hc2, C1, Y1, N1, _, _, b1⟩; have HB1 := Lib.hid b1; have HC1 := Lib.hid C1; have HY1 := Lib.hid Y1; have HN1 := Lib.hid N1; have s0 := (b1.cell (p := ⟨w.heap.size, 0, none⟩) hs0).trans p0; have s1 := (b1.cell (p := ⟨w.heap.size, 1, none⟩) hs0).trans p1; clear b1 C1 Y1 N1)) | (go_at_call 100; ((with_reducible refine (CN.out _ HB1.out).mono ?_); rintro e2 w2 ⟨rfl, b2⟩; have HB2 := Lib.hid (below_next HB1.out b2); have HC2 := Lib.hid (Rl.cells_next (Rl.keeps_dec true) HC1.out b2); have HY2 := Lib.hid (Rl.tyd_next HY1.out b2); have HZ2 := Lib.hid b2.size; have HK2 := Lib.hid (below_block HB2.out HK0.out); obtain ⟨⟨d0, d1⟩, f0, f1⟩ := mar_cells HK2.out; clear b2)))
 obtain ⟨hk, ho, hz⟩ := set_mar HK2.out (.string nm) (.slice A1 ds.length c1)
 have hbf : Below w.heap.size w ((w2.setCell ⟨w.heap.size + 1, 0, none⟩ (.string nm)).setCell ⟨w.heap.size + 1, 1, none⟩ (.slice A1 ds.length c1)) := ((below_next HB0.out HB2.out).setCell (Nat.le_succ _) _).setCell (Nat.le_succ _) _
 generalize (w2.setCell ⟨w.heap.size + 1, 0, none⟩ (.string nm)).setCell ⟨w.heap.size + 1, 1, none⟩ (.slice A1 ds.length c1) = Wf at hk ho hz hbf ⊢
 obtain ⟨⟨z0, z1⟩, _⟩ := mar_cells hk
 obtain ⟨hC, hY⟩ := cells_only (by decide) (by decide) HC2.out HY2.out ho
 exact bodyPost_ret (v := .agg #[.string nm, .slice A1 ds.length c1]) (by simp [results, Tryz.results167, go_sem, z0, z1]) rfl ⟨A1, c1, rfl, hc1, hC, hY, ⟨fun b off hA => Nat.le_trans hwW (HN1.out.1 b off hA), fun b off hA => by rw [hz]; exact Nat.lt_of_lt_of_le (HN1.out.2 b off hA) HZ2.out⟩, hbf⟩
theorem toldB_more {r : List Rl.Decl × List Rl.Margin} {w w0 : World} {e : Ending} {w' : World} (hb : Below w.heap.size w w0) (h : ToldB r w0 e w') : ToldB r w e w' := by
 obtain ⟨A1, c1, A2, c2, he, h1, h2, h3, h4, ⟨h5, h6⟩, h7, h8, h9⟩ := h
 exact ⟨A1, c1, A2, c2, he, h1, h2, h3, h4, ⟨fun b off hA => Nat.le_trans hb.size (h5 b off hA), h6⟩, h7, h8, below_next hb h9⟩
namespace Rl
open Tk Ns
theorem brB_opens {t : Tok} (h : brB t = true) : isO t := by
 have hbr : t.1 = 12 /\ t.2.1 = ⟨#[123]⟩ := of_decide_eq_true h
 unfold isO clo
 rw [if_neg (by rw [hbr.1, hbr.2]; decide), if_neg (by rw [hbr.1, hbr.2]; decide), if_pos hbr]
 decide
theorem ends_opens {ts : List Tok} {e : Nat} (he : e < ts.length) (h : isO (tk ts e)) : (e : Int) < Ru.g (ends ts) e /\ Ru.g (ends ts) e <= ts.length := by
 rcases ends_range he with ⟨h1, _⟩ | ⟨_, h2, h3⟩
 ·exact absurd h h1
 ·exact ⟨h2, h3⟩
theorem mg_iff {ts : List Tok} {k b e : Nat} (hl : e < b) (hst : stB true (tk ts e) = true) : marAt ts true k b e ↔ mgB ts k e = true := by
 have h1 : (tk ts e).1 = 12 ↔ brB (tk ts e) = true := by
  constructor
  ·intro h
   unfold stB at hst
   rw [Bool.true_and] at hst
   have h2 : seB (tk ts e) = false := decide_eq_false (by omega)
   rw [h2, Bool.or_false] at hst
   exact hst
  ·intro h
   exact (of_decide_eq_true h : (tk ts e).1 = 12 /\ (tk ts e).2.1 = ⟨#[123]⟩).1
 have h2 : box (Ru.lowS (tk ts k).2.1) = box (tk ts k).2.1 := by
  unfold box
  rw [Ru.lowS_low]
 unfold marAt mgB
 rw [h1, h2]
 simp only [Bool.and_eq_true, decide_eq_true_eq]
 exact ⟨fun ⟨_, a, _, b, c⟩ => ⟨a, b, c⟩, fun ⟨a, b, c⟩ => ⟨hl, a, trivial, b, c⟩⟩
end Rl
theorem sblock_any (sd : List Tk.Tok -> Bool) (hsd : SdK sd) (ts : List Tk.Tok) (hF : Pr.FairB ts) (hwf : Pr.Wf ts) (A C : Option Addr) (ca cc : Nat) : ∀ (n : Nat) (page : Bool) (p : Nat), (Ru.g (Ns.ends ts) p).toNat - p <= n -> p < ts.length -> Ns.isO (Tk.tk ts p) ->
 ∀ (w : World), Sh ts A ca C w -> PTab w.heap.size w -> BTab w.heap.size w -> Calls Tryz.prog 103 #[shV A ts.length ca C (Ns.ends ts).length cc, .int .i64 p, .bool page] w (ToldB (Rl.blk sd ts page (p + 1) (Ru.g (Ns.ends ts) p).toNat) w) := fun n => by
 refine Nat.strongRecOn n (fun n ih page p hn hp hO w h hT hB => ?_)
 have IH := Lib.hid ih
 have hm := hF.1
 have HEL := Lib.hid (Ns.ends_len ts)
 obtain ⟨hg1, hg2⟩ := Rl.ends_opens hp hO
 obtain ⟨tz, htz⟩ : ∃ tz : Nat, Ru.g (Ns.ends ts) p = tz := ⟨(Ru.g (Ns.ends ts) p).toNat, by omega⟩
 have HTZ := Lib.hid htz
 rw [htz] at hg1 hg2 hn
 rw [htz, Int.toNat_natCast]
 rw [Int.toNat_natCast] at hn
 have hto : tz <= ts.length := by omega
 have hpt : p < tz := by omega
 obtain ⟨W0, hW⟩ : ∃ W0, W0 = w.alloc (.cells #[.slice A ts.length ca, .slice C (Ns.ends ts).length cc] 58) := ⟨_, rfl⟩
 have hb0 : Below w.heap.size w W0 := by rw [hW]; exact (Below.refl _ _).alloc (Nat.le_refl _) _
 have k0 : W0.heap[w.heap.size]? = some (.cells #[.slice A ts.length ca, .slice C (Ns.ends ts).length cc] 58 (0, 0)) := by rw [hW]; exact heap_alloc_new w _
 obtain ⟨p0, p1⟩ := sh_cells k0
 have hs0 : w.heap.size < W0.heap.size := by rw [hW]; simp
 have HB0 := Lib.hid hb0
 have HW := Lib.hid hW.symm
 have HS := Lib.hid (h.next hb0)
 have HT := Lib.hid (hT.next hb0)
 have HBT := Lib.hid (hB.next hb0)
 have HP0 := Lib.hid p0
 have HP1 := Lib.hid p1
 obtain ⟨bC, oC, rfl, hbC, hpC⟩ := HS.out.hes (by rw [HEL.out]; omega)
 have pc := hpC p (by rw [HEL.out]; exact hp)
 rw [HTZ.out] at pc
 have hec : (p : Int) < ((Ns.ends ts).length : Int) := by rw [HEL.out]; omega
 obtain ⟨b, off, rfl, hb, hpp⟩ := HS.out.hts (by omega)
 have HP := Lib.hid hpp
 have HBb := Lib.hid hb
 clear ih hb0 k0 hW h hT hB hpC hbC hpp hb hg1 hg2 hO htz
 unfold shV
 go_enter Tryz.func103, Tryz.ntmps103
 go_upto_region 1 with fail
 rw [HW.out]
 clear HW
 go_quiet (fail)
 go_wp2_with fail
 clear pc hec p0 p1
 go_loopw [6, 7, 8] (fun v6 v7 v8 wr => Rl.BlkAt sd ts page (p + 1) tz W0 v6 v7 v8 wr) (fun _ _ v8 _ => tz - (RowKit.intOf v8).toNat)
 case atStart => exact ⟨p + 1, [], [], Nat.le_refl _, by omega, Nat.zero_le _, Nat.zero_le _, by go_num, Lib.hid rfl, Lib.hid (Rl.Gr.start (below_drewN (Below.refl _ _) _)), Lib.hid (Rl.Gr.start (below_drewN (Below.refl _ _) _))⟩
 case round =>
  obtain ⟨k, ds, ms, hk1, hk2, hd1, hm1, rfl, HV, HD, HM⟩ := hrel
  have HBR := Lib.hid HD.out.bel
  by_cases hlt : k < tz
  ·have hkl : k < ts.length := by omega
   have hkli : (k : Int) < (ts.length : Int) := by omega
   obtain ⟨q0, _, _⟩ := HP.out k hkl
   replace q0 := (HBR.out.cell (p := ⟨b, off + k * 3, none⟩) HBb.out).trans q0
   have s0 := (HBR.out.cell (p := ⟨w.heap.size, 0, none⟩) hs0).trans HP0.out
   have s1 := (HBR.out.cell (p := ⟨w.heap.size, 1, none⟩) hs0).trans HP1.out
   by_cases h1 : (Tk.tk ts k).1 = 1 ∨ (Tk.tk ts k).1 = 15
   ·have HN : Hid (Rl.blk sd ts page (p + 1) tz = (ds ++ (Rl.blk sd ts page (k + 1) tz).1, ms ++ (Rl.blk sd ts page (k + 1) tz).2)) := Lib.hid (by rw [HV.out, Rl.blk_skip sd ts hlt h1])
    rcases h1 with h1 | h1
    ·rw [h1] at q0
     clear h1 HV
     go_wp2_with fail
     go_roundw
     case rel => exact ⟨k + 1, ds, ms, by omega, by omega, by omega, by omega, by go_num, HN, HD, HM⟩
     case measure => simp [RowKit.intOf]; omega
    ·rw [h1] at q0
     clear h1 HV
     go_wp2_with fail
     go_roundw
     case rel => exact ⟨k + 1, ds, ms, by omega, by omega, by omega, by omega, by go_num, HN, HD, HM⟩
     case measure => simp [RowKit.intOf]; omega
   ·have n1 : ((Tk.tk ts k).1 == 1) = false := beq_false_of_ne (fun c => h1 (.inl c))
    have n15 : ((Tk.tk ts k).1 == 15) = false := beq_false_of_ne (fun c => h1 (.inr c))
    by_cases h4 : (Tk.tk ts k).1 = 4
    ·have CE : Hid (Calls Tryz.prog 53 #[.agg #[.slice (some ⟨b, off, none⟩) ts.length ca, .slice (some ⟨bC, oC, none⟩) (Ns.ends ts).length cc], .int .i64 k, .int .i64 tz] wr (Nu (Ns.fnd (fun x => Rl.stB true (Tk.tk ts x)) (Ns.plc (Ns.ends ts) tz (k + 1))) wr)) := Lib.hid (by
      have := send_any ts (by omega) (some ⟨b, off, none⟩) (some ⟨bC, oC, none⟩) ca cc k tz hlt hto wr (HS.out.next HBR.out)
      rw [decide_eq_true h4, Rl.fnd_at hlt hto h4] at this
      exact this)
     have hfb := Rl.fo_bd (Rl.stB true) ts (show k + 1 <= tz by omega)
     have hfo : Rl.fo (Rl.stB true) ts (k + 1) tz = if Ns.fnd (fun x => Rl.stB true (Tk.tk ts x)) (Ns.plc (Ns.ends ts) tz (k + 1)) = -1 then tz else (Ns.fnd (fun x => Rl.stB true (Tk.tk ts x)) (Ns.plc (Ns.ends ts) tz (k + 1))).toNat := rfl
     have hra := Rl.fnd_range (fun x => Rl.stB true (Tk.tk ts x)) (Ns.plc (Ns.ends ts) tz (k + 1))
     have HMem : Hid (Ns.fnd (fun x => Rl.stB true (Tk.tk ts x)) (Ns.plc (Ns.ends ts) tz (k + 1)) ≠ -1 -> Rl.fo (Rl.stB true) ts (k + 1) tz < tz) := Lib.hid fun hne => by
      obtain ⟨x, hx, e, _⟩ := Rl.fnd_mem hne
      have hx2 := Ns.plc_mem _ (Nat.le_refl _) hx
      rw [hfo, if_neg hne, e, Int.toNat_natCast]; exact hx2.2
     have HIs : Hid (Rl.fo (Rl.stB true) ts (k + 1) tz < tz -> Rl.stB true (Tk.tk ts (Rl.fo (Rl.stB true) ts (k + 1) tz)) = true) := Lib.hid fun hl => Rl.fo_is hl
     have HTm : Hid (Rl.marAt ts page k tz (Rl.fo (Rl.stB true) ts (k + 1) tz) -> Rl.blk sd ts page (p + 1) tz = (ds ++ (Rl.blk sd ts page (Ns.sk (Ns.ends ts) (Rl.fo (Rl.stB true) ts (k + 1) tz)) tz).1, (ms ++ [(Ru.lowS (Tk.tk ts k).2.1, (Rl.blk sd ts false (Rl.fo (Rl.stB true) ts (k + 1) tz + 1) (min (Ru.g (Ns.ends ts) (Rl.fo (Rl.stB true) ts (k + 1) tz)).toNat tz)).1)]) ++ (Rl.blk sd ts page (Ns.sk (Ns.ends ts) (Rl.fo (Rl.stB true) ts (k + 1) tz)) tz).2)) := Lib.hid fun hma => by
      rw [HV.out, Rl.blk_mar sd ts hlt h4 hma]; simp
     have HFm : Hid (¬ Rl.marAt ts page k tz (Rl.fo (Rl.stB true) ts (k + 1) tz) -> Rl.blk sd ts page (p + 1) tz = (ds ++ (Rl.blk sd ts page (Ns.sk (Ns.ends ts) (Rl.fo (Rl.stB true) ts (k + 1) tz)) tz).1, ms ++ (Rl.blk sd ts page (Ns.sk (Ns.ends ts) (Rl.fo (Rl.stB true) ts (k + 1) tz)) tz).2)) := Lib.hid fun hma => by
      rw [HV.out, Rl.blk_at sd ts hlt h4 hma]
     rw [h4] at q0
     clear HV h1 h4 n1 n15
     generalize Ns.fnd (fun x => Rl.stB true (Tk.tk ts x)) (Ns.plc (Ns.ends ts) tz (k + 1)) = fa at *
     generalize Rl.fo (Rl.stB true) ts (k + 1) tz = e1 at *
     by_cases hfa : fa < 0
     ·have d1 : decide (fa < 0) = true := decide_eq_true hfa
      obtain rfl : e1 = tz := by rw [hfo, if_pos (by omega)]
      have HN : Hid (Rl.blk sd ts page (p + 1) e1 = (ds, ms)) := Lib.hid (by
       have hs := Ns.sk_gt (Ns.ends ts) e1
       rw [HFm.out (fun c => Nat.lt_irrefl _ c.1), Rl.blk_end sd ts (by omega), List.append_nil, List.append_nil])
      clear hfo hra HMem HIs HTm HFm
      go_wp2_with (go_at_call 53; ((with_reducible refine (CE.out).mono ?_); rintro e w1 ⟨rfl, b1⟩; have HB1 := Lib.hid b1; clear b1))
      have HR := Lib.hid (toldB_more HB0.out (told_block (HD.out.next (Rl.keeps_dec true) HB1.out) (HM.out.next (Rl.keeps_marA _) HB1.out)))
      exact bodyPost_ret (v := .tuple #[u6, u7]) (by simp [results, Tryz.results103, go_sem]) rfl (by rw [HN.out]; exact HR.out)
     ·obtain ⟨m, rfl⟩ : ∃ m : Nat, fa = m := ⟨fa.toNat, by omega⟩
      have d1 : decide ((m : Int) < 0) = false := decide_eq_false hfa
      obtain rfl : e1 = m := by rw [hfo, if_neg (by omega)]; rfl
      have hle : e1 < tz := HMem.out (by omega)
      have hst := HIs.out hle
      have hel1 : e1 < ts.length := by omega
      clear hfo hra HMem HIs
      have hs0' := Ns.sk_gt (Ns.ends ts) e1
      have hs1 : Ns.sk (Ns.ends ts) e1 <= ts.length := by
       have := Ns.sk_le (es := Ns.ends ts) (a := e1) (by rw [HEL.out]; exact hel1)
       rw [HEL.out] at this; exact this
      have CS : Hid (∀ W, Below W0.heap.size W0 W -> Calls Tryz.prog 55 #[.slice (some ⟨bC, oC, none⟩) (Ns.ends ts).length cc, .int .i64 e1] W (Nu (Ns.sk (Ns.ends ts) e1 : Nat) W)) := Lib.hid fun W hb => by
       rw [Ns.sk_eq]; exact skipC _ (Ns.ends_fit (by omega)) (Ns.ends_lead ts) (some ⟨bC, oC, none⟩) cc e1 (by omega) W (HS.out.next hb).hes
      cases page
      ·have HN := Lib.hid (HFm.out (fun c => Bool.noConfusion c.2.2.1))
       clear HTm HFm
       generalize HN9 : Ns.sk (Ns.ends ts) e1 = n9 at *
       clear HN9
       go_wp2_with (first | (go_at_call 53; ((with_reducible refine (CE.out).mono ?_); rintro e w1 ⟨rfl, b1⟩; have HB1 := Lib.hid b1; have HBW1 := Lib.hid (below_next HBR.out b1); have s10 := (HBW1.out.cell (p := ⟨w.heap.size, 0, none⟩) hs0).trans HP0.out; have s11 := (HBW1.out.cell (p := ⟨w.heap.size, 1, none⟩) hs0).trans HP1.out; clear b1)) | (go_at_call 55; ((with_reducible refine (CS.out _ HBW1.out).mono ?_); rintro e w9 ⟨rfl, b9⟩; have HB9 := Lib.hid (below_next HB1.out b9); clear b9)))
       go_roundw
       case rel => exact ⟨n9, ds, ms, by omega, by omega, by omega, by omega, by go_num, HN, Lib.hid (HD.out.next (Rl.keeps_dec true) HB9.out), Lib.hid (HM.out.next (Rl.keeps_marA _) HB9.out)⟩
       case measure => simp [RowKit.intOf]; omega
      ·have HMI := Lib.hid (Rl.mg_iff (k := k) hle hst)
       have CI : Hid (∀ W, Below W0.heap.size W0 W -> Calls Tryz.prog 166 #[.agg #[.slice (some ⟨b, off, none⟩) ts.length ca, .slice (some ⟨bC, oC, none⟩) (Ns.ends ts).length cc], .int .i64 k, .int .i64 e1] W (Bo (Rl.mgB ts k e1) W)) := Lib.hid fun W hb => ismargin_any ts hF (some ⟨b, off, none⟩) (some ⟨bC, oC, none⟩) ca cc k e1 (by omega) hel1 W (HS.out.next hb) (HBT.out.next hb)
       cases hmg : Rl.mgB ts k e1
       ·rw [hmg] at CI
        have HN := Lib.hid (HFm.out (fun c => by have := HMI.out.1 c; rw [hmg] at this; cases this))
        clear HTm HFm HMI hmg
        generalize HN9 : Ns.sk (Ns.ends ts) e1 = n9 at *
        clear HN9
        go_wp2_with (first | (go_at_call 53; ((with_reducible refine (CE.out).mono ?_); rintro e w1 ⟨rfl, b1⟩; have HB1 := Lib.hid b1; have HBW1 := Lib.hid (below_next HBR.out b1); have s10 := (HBW1.out.cell (p := ⟨w.heap.size, 0, none⟩) hs0).trans HP0.out; have s11 := (HBW1.out.cell (p := ⟨w.heap.size, 1, none⟩) hs0).trans HP1.out; clear b1)) | (go_at_call 166; ((with_reducible refine (CI.out _ HBW1.out).mono ?_); rintro e w2 ⟨rfl, b2⟩; have HB2 := Lib.hid (below_next HB1.out b2); have HBW2 := Lib.hid (below_next HBR.out HB2.out); have s20 := (HBW2.out.cell (p := ⟨w.heap.size, 0, none⟩) hs0).trans HP0.out; have s21 := (HBW2.out.cell (p := ⟨w.heap.size, 1, none⟩) hs0).trans HP1.out; clear b2)) | (go_at_call 55; ((with_reducible refine (CS.out _ HBW2.out).mono ?_); rintro e w9 ⟨rfl, b9⟩; have HB9 := Lib.hid (below_next HB2.out b9); clear b9)))
        go_roundw
        case rel => exact ⟨n9, ds, ms, by omega, by omega, by omega, by omega, by go_num, HN, Lib.hid (HD.out.next (Rl.keeps_dec true) HB9.out), Lib.hid (HM.out.next (Rl.keeps_marA _) HB9.out)⟩
        case measure => simp [RowKit.intOf]; omega
       ·rw [hmg] at CI
        have hbr : Rl.brB (Tk.tk ts e1) = true := by
         have := hmg
         unfold Rl.mgB at this
         rw [Bool.and_eq_true] at this
         exact this.1
        have hOe := Rl.brB_opens hbr
        have hge := Rl.ends_opens hel1 hOe
        have hwi := Ns.within1 (ts := ts) (a := p) (b := e1) hp hel1
        have hge2 : Ru.g (Ns.ends ts) e1 <= tz := by
         rw [HTZ.out] at hwi
         by_cases c : Ru.g (Ns.ends ts) e1 <= tz
         ·exact c
         ·exact absurd ⟨by omega, by omega, by omega, by omega, by omega⟩ hwi
        have hmin : min (Ru.g (Ns.ends ts) e1).toNat tz = (Ru.g (Ns.ends ts) e1).toNat := by omega
        have HN := Lib.hid (HTm.out (HMI.out.2 hmg))
        rw [hmin] at HN
        have CM : Hid (∀ W, Below W0.heap.size W0 W -> Calls Tryz.prog 167 #[.agg #[.slice (some ⟨b, off, none⟩) ts.length ca, .slice (some ⟨bC, oC, none⟩) (Ns.ends ts).length cc], .int .i64 k, .int .i64 e1] W (ToldM (Ru.lowS (Tk.tk ts k).2.1, (Rl.blk sd ts false (e1 + 1) (Ru.g (Ns.ends ts) e1).toNat).1) W)) := Lib.hid fun W hb => smargin_any ts hF (some ⟨b, off, none⟩) (some ⟨bC, oC, none⟩) ca cc k e1 hkl _ W (HS.out.next hb) fun W2 hb2 => IH.out ((Ru.g (Ns.ends ts) e1).toNat - e1) (by omega) false e1 (Nat.le_refl _) hel1 hOe W2 ((HS.out.next hb).next hb2) ((HT.out.next hb).next hb2) ((HBT.out.next hb).next hb2)
        have HAV : Hid (∀ (A4 : Option Addr) (s3 s4 : Nat) {s5 : Nat}, wr.heap.size <= s3 -> (Rl.New s3 A4 /\ ∀ b off, A4 = some ⟨b, off, none⟩ -> b < s4) -> s4 <= s5 -> ∀ b off, A4 = some ⟨b, off, none⟩ -> u6.ownBlock ≠ some b /\ b < s5) := Lib.hid fun A4 s3 s4 s5 h1 h2 h3 b off hA => by
         have hb1 := h2.1 b off hA
         have hb2 := h2.2 b off hA
         exact ⟨fun e => by have := Rl.gr_block HD.out b e; omega, by omega⟩
        clear HTm HFm HMI hmg hbr hOe hge hwi hge2 hmin
        generalize HRN : Rl.blk sd ts false (e1 + 1) (Ru.g (Ns.ends ts) e1).toNat = rn at *
        clear HRN
        generalize HN9 : Ns.sk (Ns.ends ts) e1 = n9 at *
        clear HN9
        generalize Ru.lowS (Tk.tk ts k).2.1 = ls at *
        have hml : (ms ++ [(ls, rn.1)]).length <= n9 := by rw [List.length_append]; simp only [List.length_cons, List.length_nil]; omega
        go_wp2_with (first | (go_at_call 53; ((with_reducible refine (CE.out).mono ?_); rintro e w1 ⟨rfl, b1⟩; have HB1 := Lib.hid b1; have HBW1 := Lib.hid (below_next HBR.out b1); have s10 := (HBW1.out.cell (p := ⟨w.heap.size, 0, none⟩) hs0).trans HP0.out; have s11 := (HBW1.out.cell (p := ⟨w.heap.size, 1, none⟩) hs0).trans HP1.out; clear b1)) | (go_at_call 166; ((with_reducible refine (CI.out _ HBW1.out).mono ?_); rintro e w2 ⟨rfl, b2⟩; have HB2 := Lib.hid (below_next HB1.out b2); have HBW2 := Lib.hid (below_next HBR.out HB2.out); have s20 := (HBW2.out.cell (p := ⟨w.heap.size, 0, none⟩) hs0).trans HP0.out; have s21 := (HBW2.out.cell (p := ⟨w.heap.size, 1, none⟩) hs0).trans HP1.out; clear b2)) | (go_at_call 167; ((with_reducible refine (CM.out _ HBW2.out).mono ?_); rintro e w4 ⟨A4, c4', rfl, hc4, T4, Y4, N4, b4⟩; have HB4 := Lib.hid (below_next HB2.out b4); have HBW4 := Lib.hid (below_next HBR.out HB4.out); have HT4 := Lib.hid T4; have HY4 := Lib.hid Y4; have HN4 := Lib.hid N4; have HS2 := Lib.hid HB2.out.size; have HM4 := Lib.hid (HM.out.next (Rl.keeps_marA _) HB4.out); have HD4 := Lib.hid (HD.out.next (Rl.keeps_dec true) HB4.out); clear b4 T4 Y4 N4)) | (at_builtin; refine app_mar rfl _ _ rfl rfl HM4.out (ls, rn.1) A4 c4' hc4 HT4.out HY4.out (HAV.out _ _ _ HS2.out HN4.out (Nat.le_refl _)) _ _ rfl (by omega) ?_; intro v' w6 G1 G2; have HG1 := Lib.hid G1; have HG2 := Lib.hid G2; have HBW6 := Lib.hid G1.bel; have s60 := (HBW6.out.cell (p := ⟨w.heap.size, 0, none⟩) hs0).trans HP0.out; have s61 := (HBW6.out.cell (p := ⟨w.heap.size, 1, none⟩) hs0).trans HP1.out; clear G1 G2) | (go_at_call 55; ((with_reducible refine (CS.out _ HBW6.out).mono ?_); rintro e w9 ⟨rfl, b9⟩; have HB9 := Lib.hid b9; clear b9)))
        go_roundw
        case rel => exact ⟨n9, ds, ms ++ [(ls, rn.1)], by omega, by omega, by omega, hml, by go_num, HN, Lib.hid ((HD4.out.only (by decide) (Rl.kT_dec2 (by decide)) HG2.out HG1.out.bel).next (Rl.keeps_dec true) HB9.out), Lib.hid (HG1.out.next (Rl.keeps_marA _) HB9.out)⟩
        case measure => simp [RowKit.intOf]; omega
    ·have n4 : ((Tk.tk ts k).1 == 4) = false := beq_false_of_ne h4
     have HN0 : Hid (Rl.blk sd ts page (p + 1) tz = (ds ++ (Rl.addD (Rl.declL sd (Rl.sub ts k (Rl.fo Rl.seB ts k tz))) (Rl.blk sd ts page (Rl.fo Rl.seB ts k tz) tz)).1, ms ++ (Rl.addD (Rl.declL sd (Rl.sub ts k (Rl.fo Rl.seB ts k tz))) (Rl.blk sd ts page (Rl.fo Rl.seB ts k tz) tz)).2)) := Lib.hid (by rw [HV.out, Rl.blk_decl sd ts hlt h1 h4])
     have hfb := Rl.fo_bd Rl.seB ts (Nat.le_of_lt hlt)
     have hfl := Rl.fo_lt (p := Rl.seB) hlt (decide_eq_false (fun c => h1 (.inr c)))
     have CF : Hid (Calls Tryz.prog 168 #[.agg #[.slice (some ⟨b, off, none⟩) ts.length ca, .slice (some ⟨bC, oC, none⟩) (Ns.ends ts).length cc], .int .i64 k, .int .i64 tz] wr (Nu (Rl.fo Rl.seB ts k tz : Nat) wr)) :=
      Lib.hid (ssemi_any ts (by omega) (some ⟨b, off, none⟩) (some ⟨bC, oC, none⟩) ca cc k tz (Nat.le_of_lt hlt) hto wr (HS.out.next HBR.out))
     have CD : Hid (∀ W, Below W0.heap.size W0 W -> Calls Tryz.prog 169 #[.agg #[.slice (some ⟨b, off, none⟩) ts.length ca, .slice (some ⟨bC, oC, none⟩) (Ns.ends ts).length cc], .int .i64 k, .int .i64 (Rl.fo Rl.seB ts k tz : Nat)] W (ToldD (Rl.declL sd (Rl.sub ts k (Rl.fo Rl.seB ts k tz))) W)) :=
      Lib.hid fun W hb => sdecl_any sd hsd ts hF hwf (some ⟨b, off, none⟩) (some ⟨bC, oC, none⟩) ca cc k (Rl.fo Rl.seB ts k tz) hfl (by omega) (fun c => h1 (.inl c)) W (HS.out.next hb) (HT.out.next hb)
     clear h1 h4 HV
     generalize (Tk.tk ts k).1 = kk at *
     generalize Rl.declL sd (Rl.sub ts k (Rl.fo Rl.seB ts k tz)) = rd at *
     generalize Rl.fo Rl.seB ts k tz = e1 at *
     go_upto_region 6 with (first | (go_at_call 168; ((with_reducible refine (CF.out).mono ?_); rintro e w1 ⟨rfl, b1⟩; have HB1 := Lib.hid b1; have HBW1 := Lib.hid (below_next HBR.out b1); have s10 := (HBW1.out.cell (p := ⟨w.heap.size, 0, none⟩) hs0).trans HP0.out; have s11 := (HBW1.out.cell (p := ⟨w.heap.size, 1, none⟩) hs0).trans HP1.out; clear b1)) | (go_at_call 169; ((with_reducible refine (CD.out _ HBW1.out).mono ?_); rintro e w2 ⟨d, bb, A3, c3, rfl, hc3, T3, b2, hres⟩; have HB2 := Lib.hid (below_next HB1.out b2); have HT3 := Lib.hid T3; have HRES := Lib.hid hres; clear b2 T3 hres)))
     have k3 := heap_alloc_new w2 (.cells #[.string d.1, .slice A3 d.2.1.length c3, .bool d.2.2] 42)
     have b3 := HB2.out.alloc HB2.out.size (.cells #[.string d.1, .slice A3 d.2.1.length c3, .bool d.2.2] 42)
     have t3 := HT3.out.next ((Below.refl w2.heap.size w2).alloc (Nat.le_refl _) (.cells #[.string d.1, .slice A3 d.2.1.length c3, .bool d.2.2] 42))
     generalize w2.alloc (.cells #[.string d.1, .slice A3 d.2.1.length c3, .bool d.2.2] 42) = w3 at k3 b3 t3 ⊢
     obtain ⟨⟨y0, y1, y2⟩, _⟩ := dec_cells k3
     have HT4 := Lib.hid t3
     have HD3 := Lib.hid (HD.out.next (Rl.keeps_dec true) b3)
     have HM3 := Lib.hid (HM.out.next (Rl.keeps_marA _) b3)
     clear k3 b3 t3 q0
     cases bb
     ·have HN : Hid (Rl.blk sd ts page (p + 1) tz = (ds ++ (Rl.blk sd ts page e1 tz).1, ms ++ (Rl.blk sd ts page e1 tz).2)) := Lib.hid (by rw [HN0.out, HRES.out]; rfl)
      clear HN0 HRES CD CF
      go_wp2_with fail
      go_roundw
      case rel => exact ⟨e1, ds, ms, by omega, by omega, by omega, by omega, by go_num, HN, HD3, HM3⟩
      case measure => simp [RowKit.intOf]; omega
     ·have HN : Hid (Rl.blk sd ts page (p + 1) tz = ((ds ++ [d]) ++ (Rl.blk sd ts page e1 tz).1, ms ++ (Rl.blk sd ts page e1 tz).2)) := Lib.hid (by rw [HN0.out, HRES.out]; simp [Rl.addD])
      have hdl : (ds ++ [d]).length <= e1 := by rw [List.length_append]; simp only [List.length_cons, List.length_nil]; omega
      clear HN0 HRES CD CF
      go_wp2_with (at_builtin; refine app_dec rfl _ _ rfl rfl HD3.out d A3 c3 hc3 HT4.out _ _ rfl (by omega) ?_; intro v' w4 G1 G2 G3; have HG1 := Lib.hid G1; have HG2 := Lib.hid G2; have HG3 := Lib.hid G3; clear G1 G2 G3)
      go_roundw
      case rel => exact ⟨e1, ds ++ [d], ms, by omega, by omega, hdl, by omega, by go_num, HN, HG1, Lib.hid (Rl.gr_decl HM3.out HG2.out HG1.out.bel HG3.out)⟩
      case measure => simp [RowKit.intOf]; omega
  ·have HN : Hid (Rl.blk sd ts page (p + 1) tz = (ds, ms)) := Lib.hid (by rw [HV.out, Rl.blk_end sd ts hlt, List.append_nil, List.append_nil])
   have HR := Lib.hid (toldB_more HB0.out (told_block HD.out HM.out))
   clear HV HD HM
   go_wp2_with fail
   exact bodyPost_ret (v := .tuple #[u6, u7]) (by simp [results, Tryz.results103, go_sem]) rfl (by rw [HN.out]; exact HR.out)
end Go.Proofs.YtllmjggejbdpcaaGreatDoor
