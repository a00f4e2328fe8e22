/-
  Plain words of rules: what is parsed may be. No run of the program in this text.
-/
import Derived.Test.YtkcabpjfgbghjaaGreatDoorGaj
import Derived.Test.YtkcabpjfgbghjaaGreatDoorGag
import Derived.Test.YtkcabpjfgbghjaaGreatDoorGai
import Derived.Deep.RegionHeld3
namespace Go.Proofs.YtkcabpjfgbghjaaGreatDoor
set_option maxHeartbeats 16000000
set_option maxRecDepth 100000
open Go.RowKit
namespace Rl
open Tk Ns
def Pln (t : Tok) : Prop := ¬ isO t /\ t.1 ≠ 13
theorem pln_of {t : Tok} (h : t.1 = 1 ∨ t.1 = 2 ∨ t.1 = 14) : Pln t := ⟨not_O (by omega) (by omega), by omega⟩
theorem pln_sp {t : Tok} (h : sp t = true) : Pln t := pln_of (.inl (of_decide_eq_true h))
theorem sub_split {ts : List Tok} {a b : Nat} (h1 : a <= b) (h2 : b <= ts.length) : ts = ts.take a ++ sub ts a b ++ ts.drop b /\ (ts.take a).length = a /\ (sub ts a b).length = b - a := by
 refine ⟨?_, by rw [List.length_take]; omega, by unfold sub; rw [List.length_drop, List.length_take]; omega⟩
 unfold sub
 have e : ts.take a = (ts.take b).take a := by rw [List.take_take, Nat.min_eq_left h1]
 rw [e, List.take_append_drop, List.take_append_drop]
theorem value_part (v : List Tok) : (∃ A B, v = A ++ (value v).1 ++ B /\ ∀ t ∈ A, sp t = true) /\ ((value v).2 = false -> value v = (v, false)) /\ (Edge v -> Edge (value v).1) := by
 unfold value
 split
 ·rename_i h
  have hn := h.1.1
  obtain ⟨a1, b1, e1, ha1, _⟩ := trim_part v.dropLast
  obtain ⟨a2, b2, e2, ha2, _⟩ := trim_part (trim v.dropLast).dropLast
  refine ⟨⟨a1 ++ a2, b2 ++ [lst (trim v.dropLast)] ++ b1 ++ [v.getLast hn], ?_, ?_⟩, (fun c => by cases c), fun _ => trim_edge _⟩
  ·have e3 : trim v.dropLast = (trim v.dropLast).dropLast ++ [lst (trim v.dropLast)] := by
    have hne := h.2.1
    have := (List.dropLast_concat_getLast hne).symm
    have e4 : (trim v.dropLast).getLast hne = lst (trim v.dropLast) := by
     unfold lst
     have hl := List.length_pos_iff.2 hne
     rw [tk_eq (by omega), List.getLast_eq_getElem]
    rwa [e4] at this
   show v = a1 ++ a2 ++ trim (trim v.dropLast).dropLast ++ (b2 ++ [lst (trim v.dropLast)] ++ b1 ++ [v.getLast hn])
   have e5 : v = v.dropLast ++ [v.getLast hn] := (List.dropLast_concat_getLast hn).symm
   have e6 : v.dropLast = a1 ++ (a2 ++ trim (trim v.dropLast).dropLast ++ b2 ++ [lst (trim v.dropLast)]) ++ b1 := by
    rw [<- e2, <- e3]; exact e1
   generalize hg : trim (trim v.dropLast).dropLast = z at *
   generalize lst (trim v.dropLast) = q at *
   generalize v.getLast hn = y at *
   rw [e5, e6]; simp
  ·intro t ht
   rcases List.mem_append.1 ht with ht | ht
   ·exact ha1 t ht
   ·exact ha2 t ht
 ·exact ⟨⟨[], [], by simp, fun t ht => by cases ht⟩, fun _ => rfl, fun h => h⟩
theorem declL_part {sd : List Tok -> Bool} {l : List Tok} {d : Decl} (h : declL sd l = some d) :
 (∃ A B, l = A ++ d.2.1 ++ B /\ ∀ t ∈ A, Pln t) /\ (∃ t ∈ l, t.1 = 2 /\ d.1 = Ru.lowS t.2.1) /\ Edge d.2.1 /\ sd d.2.1 = true /\ (d.2.2 = false -> value d.2.1 = (d.2.1, false)) := by
 obtain ⟨a, b, e, ha, _⟩ := trim_part l
 unfold declL at h
 cases ht : trim l with
 | nil => rw [ht] at h; cases h
 | cons t r =>
   rw [ht] at h e
   rw [declN] at h
   split at h
   ·rename_i h2
    obtain ⟨a2, e2, ha2⟩ := lead_suf r
    cases hr : lead r with
    | nil => rw [hr] at h; cases h
    | cons c r2 =>
      rw [hr] at h e2
      rw [declV] at h
      split at h
      ·rename_i hc
       obtain rfl : (Ru.lowS t.2.1, (value (trim r2)).1, (value (trim r2)).2) = d := by injection h
       obtain ⟨a3, b3, e3, ha3, _⟩ := trim_part r2
       obtain ⟨⟨a4, b4, e4, ha4⟩, hv, hed⟩ := value_part (trim r2)
       refine ⟨⟨a ++ t :: (a2 ++ c :: (a3 ++ a4)), b4 ++ b3 ++ b, ?_, ?_⟩, ⟨t, by rw [e]; simp, h2, rfl⟩, hed (trim_edge _), hc.2, fun hb => ?_⟩
       ·show l = _ ++ (value (trim r2)).1 ++ _
        generalize hz : (value (trim r2)).1 = z at *
        have e9 : l = a ++ t :: (a2 ++ c :: (a3 ++ (a4 ++ z ++ b4) ++ b3)) ++ b := by rw [<- e4, <- e3, <- e2]; exact e
        rw [e9]; simp
       ·intro x hx
        rcases List.mem_append.1 hx with hx | hx
        ·exact pln_sp (ha x hx)
        ·rcases List.mem_cons.1 hx with rfl | hx
         ·exact pln_of (.inr (.inl h2))
         ·rcases List.mem_append.1 hx with hx | hx
          ·exact pln_sp (ha2 x hx)
          ·rcases List.mem_cons.1 hx with rfl | hx
           ·exact pln_of (.inr (.inr hc.1))
           ·rcases List.mem_append.1 hx with hx | hx
            ·exact pln_sp (ha3 x hx)
            ·exact pln_sp (ha4 x hx)
       ·have hv2 := hv hb
        show value (value (trim r2)).1 = ((value (trim r2)).1, false)
        rw [hv2]; exact hv2
      ·cases h
   ·cases h
section
variable {sd : List Tok -> Bool} (hsd : ∀ l, sd l = true -> Shut l) (ts : List Tok)
include hsd
end
end Rl
theorem Rl.declN_at {sd : List Tk.Tok -> Bool} {p : List Tk.Tok} (hp : 0 < p.length) : Rl.declN sd p = if (Tk.tk p 0).1 = 2 then (if Ns.trA p p.length 1 < p.length /\ (Tk.tk p (Ns.trA p p.length 1)).1 = 14 /\ sd (Rl.value (Rl.trim (Rl.sub p (Ns.trA p p.length 1 + 1) p.length))).1 = true then
 some (Ru.lowS (Tk.tk p 0).2.1, (Rl.value (Rl.trim (Rl.sub p (Ns.trA p p.length 1 + 1) p.length))).1, (Rl.value (Rl.trim (Rl.sub p (Ns.trA p p.length 1 + 1) p.length))).2) else none) else none := by
 match p, hp with
 | t :: r, _ =>
   have e1 : Tk.tk (t :: r) 0 = t := rfl
   have e2 : Rl.sub (t :: r) 1 (t :: r).length = r := by unfold Rl.sub; rw [List.take_length]; rfl
   have hb := Rl.trA_bd (t :: r) (b := (t :: r).length) ((t :: r).length - 1) 1 (Nat.le_refl _) (by simp)
   have hl := Rl.lead_sub (ts := t :: r) (b := (t :: r).length) (Nat.le_refl _) ((t :: r).length - 1) 1 (Nat.le_refl _) (by simp)
   rw [e2] at hl
   rw [Rl.declN, e1, hl]
   by_cases h2 : t.1 = 2
   ·rw [if_pos h2, if_pos h2]
    generalize Ns.trA (t :: r) (t :: r).length 1 = k at *
    by_cases hk : k < (t :: r).length
    ·rw [Rl.sub_cons hk (Nat.le_refl _), Rl.declV]
     by_cases hc : (Tk.tk (t :: r) k).1 = 14 /\ sd (Rl.value (Rl.trim (Rl.sub (t :: r) (k + 1) (t :: r).length))).1 = true
     ·rw [if_pos hc, if_pos ⟨hk, hc⟩]
     ·rw [if_neg hc, if_neg (fun c => hc c.2)]
    ·rw [Rl.sub_low (by omega), if_neg (fun c => hk c.1)]; rfl
   ·rw [if_neg h2, if_neg h2]
def SdC (sd : List Tk.Tok -> Bool) : Prop := ∀ (v : List Tk.Tok), Pr.FairB v -> ∀ (A : Option Addr) (cap : Nat) (W : World), v.length <= cap -> Ts W W.heap.size A v -> Calls Tryz.prog 21 #[.slice A v.length cap] W (Bo (sd v) W)
def ToldD (r : Option Rl.Decl) (w : World) (e : Ending) (w' : World) : Prop :=
 ∃ (d : Rl.Decl) (b : Bool) (A : Option Addr) (cap : Nat), e = .returned (.tuple #[.agg #[.string d.1, .slice A d.2.1.length cap, .bool d.2.2], .bool b]) /\ d.2.1.length <= cap /\ TsT w' A d.2.1 /\ Below w.heap.size w w' /\ r = if b = true then some d else none
abbrev zeroDecl : Obj := .cells #[.string ⟨#[]⟩, .slice none 0 0, .bool false] 42
theorem dec_cells {w : World} {k : Nat} {x0 x1 x2 : Value} {E : TypeId} (h : w.heap[k]? = some (.cells #[x0, x1, x2] E (0, 0))) :
 (w.cell? ⟨k, 0, none⟩ = some x0 /\ w.cell? ⟨k, 1, none⟩ = some x1 /\ w.cell? ⟨k, 2, none⟩ = some x2) /\ (w.frozen? ⟨k, 0, none⟩ = false /\ w.frozen? ⟨k, 1, none⟩ = false /\ w.frozen? ⟨k, 2, none⟩ = false) :=
 ⟨tok3_cells h, by refine ⟨?_, ?_, ?_⟩ <;> simp [World.frozen?, h]⟩
theorem set3 {w : World} {k : Nat} {a b c : Value} {E : TypeId} (h : w.heap[k]? = some (.cells #[a, b, c] E (0, 0))) (x y z : Value) :
 (((w.setCell ⟨k, 0, none⟩ x).setCell ⟨k, 1, none⟩ y).setCell ⟨k, 2, none⟩ z).heap[k]? = some (.cells #[x, y, z] E (0, 0)) := by
 simp [World.setCell, Array.getElem?_modify, h]
theorem set3_below {w w1 : World} (h : Below w.heap.size w w1) (x y z : Value) : Below w.heap.size w (((w1.setCell ⟨w.heap.size, 0, none⟩ x).setCell ⟨w.heap.size, 1, none⟩ y).setCell ⟨w.heap.size, 2, none⟩ z) :=
 ((h.setCell (Nat.le_refl _) _).setCell (Nat.le_refl _) _).setCell (Nat.le_refl _) _
theorem ts_set3 {w : World} {k B : Nat} {A : Option Addr} {v : List Tk.Tok} {s : ByteArray} {A0 : Option Addr} {n c : Nat} {b : Bool} {E : TypeId} (h : Ts w B A v) (hk : w.heap[k]? = some (.cells #[.string s, .slice A0 n c, .bool b] E (0, 0))) (x y z : Value) :
 Ts (((w.setCell ⟨k, 0, none⟩ x).setCell ⟨k, 1, none⟩ y).setCell ⟨k, 2, none⟩ z) B A v := fun h0 => by
 obtain ⟨b9, o9, e, hb, hc⟩ := h h0
 have hne : b9 ≠ k := fun e => by
  subst e
  have h1 := (hc 0 h0).1
  rw [cell_of_row w b9 _ _ E (0, 0) hk] at h1
  match o9 + 0 * 3, h1 with
  | 0, h1 => simp at h1
  | 1, h1 => simp at h1
  | 2, h1 => simp at h1
  | m + 3, h1 => simp at h1
 refine ⟨b9, o9, e, hb, fun j hj => ?_⟩
 have far : ∀ o, (((w.setCell ⟨k, 0, none⟩ x).setCell ⟨k, 1, none⟩ y).setCell ⟨k, 2, none⟩ z).cell? ⟨b9, o, none⟩ = w.cell? ⟨b9, o, none⟩ := fun o => by
  rw [World.cell?_setCell_other _ _ _ _ (by intro e; injection e with e; exact hne e.symm), World.cell?_setCell_other _ _ _ _ (by intro e; injection e with e; exact hne e.symm), World.cell?_setCell_other _ _ _ _ (by intro e; injection e with e; exact hne e.symm)]
 rw [far, far, far]
 exact hc j hj
theorem tyd_set3 {w : World} {k : Nat} {A : Option Addr} {a0 a1 a2 : Value} (h : Rl.Tyd (some 61) w A) (hk : w.heap[k]? = some (.cells #[a0, a1, a2] 42 (0, 0))) (x y z : Value) :
 Rl.Tyd (some 61) (((w.setCell ⟨k, 0, none⟩ x).setCell ⟨k, 1, none⟩ y).setCell ⟨k, 2, none⟩ z) A := fun E hE b off hA => by
 obtain ⟨cs, fz, h1⟩ := h E hE b off hA
 have hne : b ≠ k := fun e => by
  subst e
  rw [hk] at h1
  injection h1 with h1
  injection h1 with _ h2
  injection hE with hE
  rw [<- hE] at h2
  exact absurd h2 (by decide)
 refine ⟨cs, fz, ?_⟩
 rw [Below.heap_setCell _ _ _ _ hne, Below.heap_setCell _ _ _ _ hne, Below.heap_setCell _ _ _ _ hne]
 exact h1
theorem size_set3 (w : World) (k : Nat) (x y z : Value) : (((w.setCell ⟨k, 0, none⟩ x).setCell ⟨k, 1, none⟩ y).setCell ⟨k, 2, none⟩ z).heap.size = w.heap.size := by simp [World.setCell]
theorem rdecl_any (sd : List Tk.Tok -> Bool) (hsd : SdC sd) (ts : List Tk.Tok) (hF : Pr.FairB ts) (A : Option Addr) (ca : Nat) (hca : ts.length <= ca) (fr tz : Nat) (hft : fr <= tz) (hto : tz <= ts.length) (w : World) (h : Ts w w.heap.size A ts) :
 Calls Tryz.prog 64 #[.slice A ts.length ca, .int .i64 fr, .int .i64 tz] w (ToldD (Rl.declL sd (Rl.sub ts fr tz)) w) := by
 obtain ⟨W0, hW⟩ : ∃ W0, W0 = w.alloc zeroDecl := ⟨_, rfl⟩
 have hb0 : Below w.heap.size w W0 := by rw [hW]; exact (Below.refl _ _).alloc (Nat.le_refl _) _
 have k0 : W0.heap[w.heap.size]? = some (.cells #[.string ⟨#[]⟩, .slice none 0 0, .bool false] 42 (0, 0)) := by rw [hW]; exact heap_alloc_new w _
 have HB0 := Lib.hid hb0
 have HK0 := Lib.hid k0
 have HW := Lib.hid hW.symm
 have hm := hF.1
 have CP := Lib.hid (rcut_any ts (by omega) A ca hca fr tz hft hto W0 (h.next hb0))
 have HPm : Hid (∀ t ∈ Rl.trim (Rl.sub ts fr tz), t.2.1.size <= 90000) := Lib.hid fun t ht => by
  have h1 := sub_mem (trim_mem ht)
  obtain ⟨j, hj, rfl⟩ := List.mem_iff_getElem.1 h1
  have := hF.2 j hj
  rwa [Tk.tk_eq hj] at this
 have hpl : (Rl.trim (Rl.sub ts fr tz)).length <= 16384 := by
  have h1 := trim_len (Rl.sub ts fr tz)
  have h2 := Rl.sub_len (ts := ts) (a := fr) (b := tz) hto
  omega
 have HV : Hid (Rl.declL sd (Rl.sub ts fr tz) = Rl.declN sd (Rl.trim (Rl.sub ts fr tz))) := Lib.hid rfl
 clear h hb0 k0 hW hF
 generalize Rl.trim (Rl.sub ts fr tz) = p at *
 generalize Rl.declL sd (Rl.sub ts fr tz) = res at *
 have tok1 : True := trivial
 by_cases hp0 : p = []
 ·subst hp0
  simp only [List.length_nil] at *
  go_enter Tryz.func64, Tryz.ntmps64
  go_upto_region 1 with fail
  rw [HW.out]
  clear HW
  go_wp2_with (first | (go_at_call 34; have _t := tok1; ((with_reducible refine (CP.out).mono ?_); rintro e w1 ⟨A1, c1, rfl, hc1, B1, b1⟩; have HB1 := Lib.hid (below_next HB0.out b1); have HK1 := Lib.hid (below_block b1 HK0.out); obtain ⟨⟨x0, x1, x2⟩, y0, y1, y2⟩ := dec_cells HK1.out; have HT1 := Lib.hid B1.1; clear b1 B1 tok1)))
  have hk := set3 HK1.out (.string ⟨#[]⟩) (.slice none 0 0) (.bool false)
  have hbf := set3_below HB1.out (.string ⟨#[]⟩) (.slice none 0 0) (.bool false)
  generalize (((w1.setCell ⟨w.heap.size, 0, none⟩ (.string ⟨#[]⟩)).setCell ⟨w.heap.size, 1, none⟩ (.slice none 0 0)).setCell ⟨w.heap.size, 2, none⟩ (.bool false)) = Wf at hk hbf ⊢
  obtain ⟨⟨z0, z1, z2⟩, _⟩ := dec_cells hk
  exact bodyPost_ret (v := .tuple #[.agg #[.string ⟨#[]⟩, .slice none 0 0, .bool false], .bool false]) (by simp [results, Tryz.results64, go_sem, z0, z1, z2]) rfl ⟨(⟨#[]⟩, [], false), false, none, 0, rfl, Nat.le_refl _, ⟨fun h0 => by simp at h0, fun _ _ _ _ hA => by cases hA⟩, hbf, by rw [HV.out]; rfl⟩
 ·have hpos : 0 < p.length := List.length_pos_iff.2 hp0
  have hpc : 0 < (p.length : Int) := by omega
  have e0 : (p.length == 0) = false := beq_false_of_ne (by omega)
  have e0i : ((p.length : Int) == 0) = false := beq_false_of_ne (by omega)
  rw [Rl.declN_at hpos] at HV
  by_cases h2 : (Tk.tk p 0).1 = 2
  ·have HH2 := Lib.hid h2
   rw [if_pos h2] at HV
   have HP0 := Lib.hid (HPm.out (Tk.tk p 0) (by rw [Tk.tk_eq hpos]; exact List.getElem_mem _))
   have htb := Rl.trA_bd p (b := p.length) (p.length - 1) 1 (Nat.le_refl _) (by omega)
   have HTB := Lib.hid htb
   clear hp0 h2 htb
   go_enter Tryz.func64, Tryz.ntmps64
   go_upto_region 1 with fail
   rw [HW.out]
   clear HW
   go_wp2_with (first | (go_at_call 34; have _t := tok1; ((with_reducible refine (CP.out).mono ?_); rintro e w1 ⟨A1, c1, rfl, hc1, B1, b1⟩; have HB1 := Lib.hid (below_next HB0.out b1); have HK1 := Lib.hid (below_block b1 HK0.out); obtain ⟨⟨x0, x1, x2⟩, y0, y1, y2⟩ := dec_cells HK1.out; have HT1 := Lib.hid B1.1; obtain ⟨b9, o9, rfl, hb9, hp9⟩ := B1.1 hpos; obtain ⟨r0, r1, _⟩ := hp9 0 hpos; rw [HH2.out] at r0; rw [Nat.zero_mul, Nat.add_zero] at r0 r1; have HP9 := Lib.hid hp9; clear hp9; clear b1 B1 tok1)))
   go_loopw [9] (fun v9 wr => ∃ k : Nat, 1 <= k /\ k <= p.length /\ v9 = .int .i64 k /\ Hid (Ns.trA p p.length 1 = Ns.trA p p.length k) /\ wr = w1) (fun v9 _ => p.length - (RowKit.intOf v9).toNat)
   case atStart => exact ⟨1, Nat.le_refl _, by omega, rfl, Lib.hid rfl, rfl⟩
   case round =>
    obtain ⟨k, hk1, hk, rfl, HT, rfl⟩ := hrel
    by_cases hlt : k < p.length
    ·obtain ⟨q0, _, _⟩ := HP9.out k hlt
     by_cases hs : (Tk.tk p k).1 = 1
     ·have HN : Hid (Ns.trA p p.length 1 = Ns.trA p p.length (k + 1)) := Lib.hid (by rw [HT.out, Ns.trA_on ⟨hlt, hs⟩])
      rw [hs] at q0
      clear hs
      go_wp2_with fail
      go_roundw
      case rel => exact ⟨k + 1, by omega, by omega, by go_num, HN, trivial⟩
      case measure => simp [RowKit.intOf]; omega
     ·have HE : Hid (Ns.trA p p.length 1 = k) := Lib.hid (by rw [HT.out, Ns.trA_end (fun c => hs c.2)])
      have hsb : ((Tk.tk p k).1 == 1) = false := beq_false_of_ne hs
      have hne : (k == p.length) = false := beq_false_of_ne (by omega)
      have hnei : ((k : Int) == (p.length : Int)) = false := beq_false_of_ne (by omega)
      rw [HE.out] at HV
      by_cases h14 : (Tk.tk p k).1 = 14
      ·have HV2 : Hid (res = if sd (Rl.value (Rl.trim (Rl.sub p (k + 1) p.length))).1 = true then some (Ru.lowS (Tk.tk p 0).2.1, (Rl.value (Rl.trim (Rl.sub p (k + 1) p.length))).1, (Rl.value (Rl.trim (Rl.sub p (k + 1) p.length))).2) else none) := Lib.hid (by
        rw [HV.out]
        by_cases hc : sd (Rl.value (Rl.trim (Rl.sub p (k + 1) p.length))).1 = true
        ·rw [if_pos ⟨hlt, h14, hc⟩, if_pos hc]
        ·rw [if_neg (fun c => hc c.2.2), if_neg hc])
       have CC2 : Hid (∀ W, Below wr.heap.size wr W -> Calls Tryz.prog 34 #[.slice (some ⟨b9, o9, none⟩) p.length c1, .int .i64 ((k : Int) + 1), .int .i64 p.length] W (ToldT (Rl.trim (Rl.sub p (k + 1) p.length)) W)) := Lib.hid fun W hb => by
        have := rcut_any p (by omega) (some ⟨b9, o9, none⟩) c1 hc1 (k + 1) p.length (by omega) (Nat.le_refl _) W (HT1.out.next hb)
        rwa [show ((k + 1 : Nat) : Int) = (k : Int) + 1 by omega] at this
       have hv0 : ∀ t ∈ Rl.trim (Rl.sub p (k + 1) p.length), t.2.1.size <= 90000 := fun t ht => HPm.out t (sub_mem (trim_mem ht))
       have hl0 : (Rl.trim (Rl.sub p (k + 1) p.length)).length <= 16384 := by
        have h1 := trim_len (Rl.sub p (k + 1) p.length)
        have h2 := Rl.sub_len (ts := p) (a := k + 1) (b := p.length) (Nat.le_refl _)
        omega
       have CV : Hid (∀ (A : Option Addr) (c : Nat) (W : World), (Rl.trim (Rl.sub p (k + 1) p.length)).length <= c -> TsT W A (Rl.trim (Rl.sub p (k + 1) p.length)) -> Calls Tryz.prog 119 #[.slice A (Rl.trim (Rl.sub p (k + 1) p.length)).length c] W (ToldVB (Rl.value (Rl.trim (Rl.sub p (k + 1) p.length))) W)) := Lib.hid fun A c W hc hT => rvalue_any _ (by omega) hv0 A c hc W hT
       have hvF : Pr.FairB (Rl.value (Rl.trim (Rl.sub p (k + 1) p.length))).1 := by
        obtain ⟨⟨a, b, e, _⟩, _⟩ := Rl.value_part (Rl.trim (Rl.sub p (k + 1) p.length))
        have hl := congrArg List.length e
        rw [List.length_append, List.length_append] at hl
        refine ⟨by omega, fun j hj => hv0 _ ?_⟩
        rw [Tk.tk_eq hj]
        have hmem := List.getElem_mem hj
        generalize (Rl.value (Rl.trim (Rl.sub p (k + 1) p.length))).1[j] = y at *
        rw [e]; simp [hmem]
       have CS : Hid (∀ (A : Option Addr) (c : Nat) (W : World), (Rl.value (Rl.trim (Rl.sub p (k + 1) p.length))).1.length <= c -> Ts W W.heap.size A (Rl.value (Rl.trim (Rl.sub p (k + 1) p.length))).1 -> Calls Tryz.prog 21 #[.slice A (Rl.value (Rl.trim (Rl.sub p (k + 1) p.length))).1.length c] W (Bo (sd (Rl.value (Rl.trim (Rl.sub p (k + 1) p.length))).1) W)) := Lib.hid fun A c W hc hT => hsd _ hvF A c W hc hT
       have CLo : Hid (∀ W, Calls Tryz.prog 24 #[.string (Tk.tk p 0).2.1] W (Sg (Ru.lowS (Tk.tk p 0).2.1) W)) := Lib.hid fun W => rlower_any _ HP0.out W
       rw [h14] at q0
       clear hs hsb h14 HV HT HE hv0 hl0 hvF HPm HTB hsd CP
       generalize Rl.value (Rl.trim (Rl.sub p (k + 1) p.length)) = vb at *
       obtain ⟨v, vi⟩ := vb
       simp only at CS HV2
       generalize Rl.trim (Rl.sub p (k + 1) p.length) = v0 at *
       generalize Ru.lowS (Tk.tk p 0).2.1 = nm at *
       generalize (Tk.tk p 0).2.1 = n0 at *
       generalize sd v = so at *
       go_wp2_with (first | (go_at_call 34; ((with_reducible refine (CC2.out _ (Below.refl _ _)).mono ?_); rintro e w2 ⟨A2, c2, rfl, hc2, B2, b2⟩; have HB2 := Lib.hid b2; have HT2 := Lib.hid B2; clear b2 B2)) | (go_at_call 119; ((with_reducible refine (CV.out _ _ _ hc2 HT2.out).mono ?_); rintro e w3 ⟨A3, c3, rfl, hc3, B3, b3⟩; have HB3 := Lib.hid (below_next HB2.out b3); have HT3 := Lib.hid B3; have r13 := (HB3.out.cell (p := ⟨b9, o9 + 1, none⟩) hb9).trans r1; clear b3 B3)) | (go_at_call 24; ((with_reducible refine (CLo.out _).mono ?_); rintro e w4 ⟨rfl, b4⟩; have HB4 := Lib.hid (below_next HB3.out b4); have HT4 := Lib.hid (HT3.out.next b4); have HT41 := Lib.hid (HT3.out.next b4).1; clear b4)) | (go_at_call 21; ((with_reducible refine (CS.out _ _ _ hc3 HT41.out).mono ?_); rintro e w5 ⟨rfl, b5⟩; have HB5 := Lib.hid (below_next HB4.out b5); have HT5 := Lib.hid (HT4.out.next b5); have HK5 := Lib.hid (below_block HB5.out HK1.out); obtain ⟨⟨g0, g1, g2⟩, i0, i1, i2⟩ := dec_cells HK5.out; clear b5)))
       have hk := set3 HK5.out (.string nm) (.slice A3 v.length c3) (.bool vi)
       have hbf := set3_below (below_next HB1.out HB5.out) (.string nm) (.slice A3 v.length c3) (.bool vi)
       have htf := ts_set3 HT5.out.1 HK5.out (.string nm) (.slice A3 v.length c3) (.bool vi)
       have hty := tyd_set3 HT5.out.2 HK5.out (.string nm) (.slice A3 v.length c3) (.bool vi)
       rw [<- size_set3 w5 w.heap.size (.string nm) (.slice A3 v.length c3) (.bool vi)] at htf
       generalize (((w5.setCell ⟨w.heap.size, 0, none⟩ (.string nm)).setCell ⟨w.heap.size, 1, none⟩ (.slice A3 v.length c3)).setCell ⟨w.heap.size, 2, none⟩ (.bool vi)) = Wf at hk hbf htf hty ⊢
       obtain ⟨⟨z0, z1, z2⟩, _⟩ := dec_cells hk
       exact bodyPost_ret (v := .tuple #[.agg #[.string nm, .slice A3 v.length c3, .bool vi], .bool so]) (by simp [results, Tryz.results64, go_sem, z0, z1, z2]) rfl ⟨(nm, v, vi), so, A3, c3, rfl, hc3, ⟨htf, hty⟩, hbf, HV2.out⟩
      ·have hkn : ((Tk.tk p k).1 != 14) = true := Ru.ne_t h14
       have hkb : ((Tk.tk p k).1 == 14) = false := beq_false_of_ne h14
       rw [if_neg (fun c => h14 c.2.1)] at HV
       clear hs h14
       generalize (Tk.tk p k).1 = kk at *
       go_wp2_with fail
       have hk := set3 HK1.out (.string ⟨#[]⟩) (.slice none 0 0) (.bool false)
       have hbf := set3_below HB1.out (.string ⟨#[]⟩) (.slice none 0 0) (.bool false)
       generalize (((wr.setCell ⟨w.heap.size, 0, none⟩ (.string ⟨#[]⟩)).setCell ⟨w.heap.size, 1, none⟩ (.slice none 0 0)).setCell ⟨w.heap.size, 2, none⟩ (.bool false)) = Wf at hk hbf ⊢
       obtain ⟨⟨z0, z1, z2⟩, _⟩ := dec_cells hk
       exact bodyPost_ret (v := .tuple #[.agg #[.string ⟨#[]⟩, .slice none 0 0, .bool false], .bool false]) (by simp [results, Tryz.results64, go_sem, z0, z1, z2]) rfl ⟨(⟨#[]⟩, [], false), false, none, 0, rfl, Nat.le_refl _, ⟨fun h0 => by simp at h0, fun _ _ _ _ hA => by cases hA⟩, hbf, by rw [HV.out]; rfl⟩
    ·obtain rfl : k = p.length := by omega
     rw [if_neg (fun c => by rw [HT.out, Ns.trA_end (fun c => by omega)] at c; omega)] at HV
     go_wp2_with fail
     have hk := set3 HK1.out (.string ⟨#[]⟩) (.slice none 0 0) (.bool false)
     have hbf := set3_below HB1.out (.string ⟨#[]⟩) (.slice none 0 0) (.bool false)
     generalize (((wr.setCell ⟨w.heap.size, 0, none⟩ (.string ⟨#[]⟩)).setCell ⟨w.heap.size, 1, none⟩ (.slice none 0 0)).setCell ⟨w.heap.size, 2, none⟩ (.bool false)) = Wf at hk hbf ⊢
     obtain ⟨⟨z0, z1, z2⟩, _⟩ := dec_cells hk
     exact bodyPost_ret (v := .tuple #[.agg #[.string ⟨#[]⟩, .slice none 0 0, .bool false], .bool false]) (by simp [results, Tryz.results64, go_sem, z0, z1, z2]) rfl ⟨(⟨#[]⟩, [], false), false, none, 0, rfl, Nat.le_refl _, ⟨fun h0 => by simp at h0, fun _ _ _ _ hA => by cases hA⟩, hbf, by rw [HV.out]; rfl⟩
  ·rw [if_neg h2] at HV
   have hkb : ((Tk.tk p 0).1 == 2) = false := beq_false_of_ne h2
   have hkn : ((Tk.tk p 0).1 != 2) = true := Ru.ne_t h2
   clear hp0 h2
   go_enter Tryz.func64, Tryz.ntmps64
   go_upto_region 1 with fail
   rw [HW.out]
   clear HW
   go_wp2_with (first | (go_at_call 34; have _t := tok1; ((with_reducible refine (CP.out).mono ?_); rintro e w1 ⟨A1, c1, rfl, hc1, B1, b1⟩; have HB1 := Lib.hid (below_next HB0.out b1); have HK1 := Lib.hid (below_block b1 HK0.out); obtain ⟨⟨x0, x1, x2⟩, y0, y1, y2⟩ := dec_cells HK1.out; have HT1 := Lib.hid B1.1; obtain ⟨b9, o9, rfl, _, hp9⟩ := B1.1 hpos; obtain ⟨r0, _, _⟩ := hp9 0 hpos; rw [Nat.zero_mul, Nat.add_zero] at r0; clear hp9; clear b1 B1 tok1)))
   have hk := set3 HK1.out (.string ⟨#[]⟩) (.slice none 0 0) (.bool false)
   have hbf := set3_below HB1.out (.string ⟨#[]⟩) (.slice none 0 0) (.bool false)
   generalize (((w1.setCell ⟨w.heap.size, 0, none⟩ (.string ⟨#[]⟩)).setCell ⟨w.heap.size, 1, none⟩ (.slice none 0 0)).setCell ⟨w.heap.size, 2, none⟩ (.bool false)) = Wf at hk hbf ⊢
   obtain ⟨⟨z0, z1, z2⟩, _⟩ := dec_cells hk
   exact bodyPost_ret (v := .tuple #[.agg #[.string ⟨#[]⟩, .slice none 0 0, .bool false], .bool false]) (by simp [results, Tryz.results64, go_sem, z0, z1, z2]) rfl ⟨(⟨#[]⟩, [], false), false, none, 0, rfl, Nat.le_refl _, ⟨fun h0 => by simp at h0, fun _ _ _ _ hA => by cases hA⟩, hbf, by rw [HV.out]; rfl⟩
def isKT (ts : List Tk.Tok) (kd : Int) (x : ByteArray) (p : Nat) : Bool := decide ((Tk.tk ts p).1 = kd /\ (Tk.tk ts p).2.1 = x)
theorem rfindt_any (ts : List Tk.Tok) (es : List Int) (hF : Ns.Fit es) (hl : es.length <= ts.length) (A C : Option Addr) (ca cc : Nat) (fr tz : Nat) (hft : fr <= tz) (hto : tz <= es.length) (kd : Int) (x : ByteArray) (hx : x.toList.isEmpty = false) (w : World) (h : Ts w w.heap.size A ts) (h2 : Bs w w.heap.size .i64 C es) :
 Calls Tryz.prog 62 #[.slice A ts.length ca, .slice C es.length cc, .int .i64 fr, .int .i64 tz, .int .i64 kd, .string x] w (Nu (Ns.fnd (isKT ts kd x) (Ns.plc es tz fr)) w) := by
 have hm := hF.1
 have CP := Lib.hid (rplaces_any es hF C cc fr tz hft hto w h2)
 have H := Lib.hid h
 have HM : Hid (∀ y ∈ Ns.plc es tz fr, y < tz) := Lib.hid fun y hy => (Ns.plc_mem _ (Nat.le_refl _) hy).2
 have hpl := Ns.plc_len (es := es) (tz - fr) fr (Nat.le_refl _)
 clear h h2 hF
 generalize Ns.plc es tz fr = pl at *
 have hnl := Ns.ni_len pl
 have HNL := Lib.hid hnl
 clear hnl
 go_enter Tryz.func62, Tryz.ntmps62
 go_wp2_with (go_at_call 118; ((with_reducible refine (CP.out).mono ?_); rintro e w1 ⟨A1, c1, rfl, hc1, B1, b1⟩; have HB1 := Lib.hid b1; have HB := Lib.hid B1; clear b1 B1))
 go_loopw [14] (fun v14 wr => ∃ k : Nat, k <= pl.length /\ v14 = .int .i64 k /\ Hid (Ns.fnd (isKT ts kd x) pl = Ns.fnd (isKT ts kd x) (pl.drop k)) /\ Hid (Below w1.heap.size w1 wr)) (fun v14 _ => pl.length - (RowKit.intOf v14).toNat)
 case atStart => exact ⟨0, Nat.zero_le _, rfl, Lib.hid rfl, Lib.hid (Below.refl _ _)⟩
 case round =>
  obtain ⟨k, hk, rfl, HK, HBW⟩ := hrel
  by_cases hlt : k < pl.length
  ·have d1 : decide (k < (Ns.ni pl).length) = true := decide_eq_true (by rw [HNL.out]; exact hlt)
   have hxx := HM.out _ (Ns.at_mem hlt)
   have hd := Ns.drop_at hlt
   obtain ⟨b, off, rfl, hb, hp⟩ := (HB.out.next HBW.out) (by rw [HNL.out]; omega)
   have p0 := hp k (by rw [HNL.out]; exact hlt)
   rw [Ns.ni_g hlt] at p0
   obtain ⟨bb, off2, rfl, hbb, hp2⟩ := (H.out.next (below_next HB1.out HBW.out)) (by omega)
   obtain ⟨q0, q1, _⟩ := hp2 (pl.getD k 0) (by omega)
   have hkn : k < (Ns.ni pl).length := by rw [HNL.out]; exact hlt
   have hxl : pl.getD k 0 < ts.length := by omega
   have hwr : IntKind.i64.wrap ((k : Int) + 1) = (k : Int) + 1 := IntWalk.i64_in _ (by omega)
   clear hp hp2 HM
   by_cases hy : (Tk.tk ts (pl.getD k 0)).1 = kd
   ·by_cases hz : (Tk.tk ts (pl.getD k 0)).2.1 = x
    ·have HV : Hid (Ns.fnd (isKT ts kd x) pl = ((pl.getD k 0 : Nat) : Int)) := Lib.hid (by rw [HK.out, hd, Ns.fnd, if_pos (show isKT ts kd x (pl.getD k 0) = true from decide_eq_true ⟨hy, hz⟩)])
     rw [hy] at q0
     rw [hz] at q1
     clear hd HK hy hz d1
     generalize pl.getD k 0 = y at *
     go_wp2_with fail
     go_ret
     exact ⟨by rw [HV.out]; rfl, below_next HB1.out HBW.out⟩
    ·have HV : Hid (Ns.fnd (isKT ts kd x) pl = Ns.fnd (isKT ts kd x) (pl.drop (k + 1))) := Lib.hid (by rw [HK.out, hd, Ns.fnd, if_neg (fun (c : isKT ts kd x (pl.getD k 0) = true) => hz (of_decide_eq_true c).2)])
     have hzb : ((Tk.tk ts (pl.getD k 0)).2.1.toList == x.toList) = false := by rw [str_same]; exact decide_eq_false hz
     rw [hy] at q0
     clear hd HK hy hz d1
     generalize (Tk.tk ts (pl.getD k 0)).2.1 = tx at *
     generalize pl.getD k 0 = y at *
     go_wp2_with fail
     go_roundw
     case rel => exact ⟨k + 1, by omega, by go_num, HV, HBW⟩
     case measure => simp [RowKit.intOf]; omega
   ·have HV : Hid (Ns.fnd (isKT ts kd x) pl = Ns.fnd (isKT ts kd x) (pl.drop (k + 1))) := Lib.hid (by rw [HK.out, hd, Ns.fnd, if_neg (fun (c : isKT ts kd x (pl.getD k 0) = true) => hy (of_decide_eq_true c).1)])
    have hyb : ((Tk.tk ts (pl.getD k 0)).1 == kd) = false := beq_false_of_ne hy
    clear hd HK hy d1
    generalize (Tk.tk ts (pl.getD k 0)).2.1 = tx at *
    generalize pl.getD k 0 = y at *
    go_wp2_with fail
    go_roundw
    case rel => exact ⟨k + 1, by omega, by go_num, HV, HBW⟩
    case measure => simp [RowKit.intOf]; omega
  ·have hlt2 : ¬ k < (Ns.ni pl).length := by rw [HNL.out]; exact hlt
   have HV : Hid (Ns.fnd (isKT ts kd x) pl = -1) := Lib.hid (by rw [HK.out, List.drop_eq_nil_of_le (by omega)]; rfl)
   go_wp2_with fail
   go_ret
   exact ⟨by rw [HV.out]; rfl, below_next HB1.out HBW.out⟩
theorem rfirst_any (ts : List Tk.Tok) (hm : ts.length <= 65536) (A C : Option Addr) (ca cc : Nat) (fr tz : Nat) (hft : fr <= tz) (hto : tz <= ts.length) (semi : Bool) (w : World) (h : Ts w w.heap.size A ts) (h2 : Bs w w.heap.size .i64 C (Ns.ends ts)) :
 Calls Tryz.prog 33 #[.slice A ts.length ca, .slice C (Ns.ends ts).length cc, .int .i64 fr, .int .i64 tz, .bool semi] w (Nu ((Rl.fo (Rl.stB semi) ts fr tz : Nat) : Int) w) := by
 have hel := Ns.ends_len ts
 have HV := Lib.hid (Rl.first_fo semi ts fr tz)
 have ra := Rl.fnd_range (fun x => Rl.brB (Tk.tk ts x)) (Ns.plc (Ns.ends ts) tz fr)
 have rb := Rl.fnd_range (fun x => Rl.seB (Tk.tk ts x)) (Ns.plc (Ns.ends ts) tz fr)
 have ua : Ns.fnd (fun x => Rl.brB (Tk.tk ts x)) (Ns.plc (Ns.ends ts) tz fr) <= 65536 := by
  by_cases hn : Ns.fnd (fun x => Rl.brB (Tk.tk ts x)) (Ns.plc (Ns.ends ts) tz fr) = -1
  ·omega
  ·obtain ⟨x, hx, e, _⟩ := Rl.fnd_mem hn
   have := (Ns.plc_mem _ (Nat.le_refl _) hx).2
   omega
 have ub : Ns.fnd (fun x => Rl.seB (Tk.tk ts x)) (Ns.plc (Ns.ends ts) tz fr) <= 65536 := by
  by_cases hn : Ns.fnd (fun x => Rl.seB (Tk.tk ts x)) (Ns.plc (Ns.ends ts) tz fr) = -1
  ·omega
  ·obtain ⟨x, hx, e, _⟩ := Rl.fnd_mem hn
   have := (Ns.plc_mem _ (Nat.le_refl _) hx).2
   omega
 have CA : Hid (Calls Tryz.prog 62 #[.slice A ts.length ca, .slice C (Ns.ends ts).length cc, .int .i64 fr, .int .i64 tz, .int .i64 12, .string ⟨#[123]⟩] w (Nu (Ns.fnd (fun x => Rl.brB (Tk.tk ts x)) (Ns.plc (Ns.ends ts) tz fr)) w)) :=
  Lib.hid (rfindt_any ts (Ns.ends ts) (Ns.ends_fit hm) (by omega) A C ca cc fr tz hft (by omega) 12 ⟨#[123]⟩ (Ns.empty_f (by decide)) w h h2)
 have CB : Hid (∀ W, Below w.heap.size w W -> Calls Tryz.prog 62 #[.slice A ts.length ca, .slice C (Ns.ends ts).length cc, .int .i64 fr, .int .i64 tz, .int .i64 15, .string ⟨#[]⟩] W (Nu (Ns.fnd (fun x => Rl.seB (Tk.tk ts x)) (Ns.plc (Ns.ends ts) tz fr)) W)) :=
  Lib.hid fun W hb => rfind_any ts (Ns.ends ts) (Ns.ends_fit hm) (by omega) A C ca cc fr tz hft (by omega) 15 W (h.next hb) (h2.next hb)
 clear h h2 hel
 generalize Ns.fnd (fun x => Rl.brB (Tk.tk ts x)) (Ns.plc (Ns.ends ts) tz fr) = fa at *
 generalize Ns.fnd (fun x => Rl.seB (Tk.tk ts x)) (Ns.plc (Ns.ends ts) tz fr) = fb at *
 generalize Rl.fo (Rl.stB semi) ts fr tz = n at *
 generalize (Ns.ends ts).length = el at *
 cases semi
 ·by_cases ha : fa < 0
  ·have d1 : decide (fa < 0) = true := decide_eq_true ha
   have HN : Hid (((n : Nat) : Int) = (tz : Int)) := Lib.hid (by have h := HV.out; rw [Rl.firstR_false] at h; repeat' split at h <;> omega)
   clear HV ra rb
   have tok1 : True := trivial
   go_enter Tryz.func33, Tryz.ntmps33
   go_wp2_with (first | (go_at_call 62; have _t := tok1; ((with_reducible refine (CA.out).mono ?_); rintro e w1 ⟨rfl, b1⟩; have HB1 := Lib.hid b1; clear b1 tok1)) | (go_at_call 62; ((with_reducible refine (CB.out _ HB1.out).mono ?_); rintro e w2 ⟨rfl, b2⟩; have HB2 := Lib.hid (below_next HB1.out b2); clear b2)))
   go_ret
   exact ⟨by rw [HN.out]; rfl, HB2.out⟩
  ·have d1 : decide (fa < 0) = false := decide_eq_false ha
   have HN : Hid (((n : Nat) : Int) = fa) := Lib.hid (by have h := HV.out; rw [Rl.firstR_false] at h; repeat' split at h <;> omega)
   clear HV ra rb
   have tok1 : True := trivial
   go_enter Tryz.func33, Tryz.ntmps33
   go_wp2_with (first | (go_at_call 62; have _t := tok1; ((with_reducible refine (CA.out).mono ?_); rintro e w1 ⟨rfl, b1⟩; have HB1 := Lib.hid b1; clear b1 tok1)) | (go_at_call 62; ((with_reducible refine (CB.out _ HB1.out).mono ?_); rintro e w2 ⟨rfl, b2⟩; have HB2 := Lib.hid (below_next HB1.out b2); clear b2)))
   go_ret
   exact ⟨by rw [HN.out]; rfl, HB2.out⟩
 ·by_cases hb : fb < 0
  ·have d2 : decide (fb < 0) = true := decide_eq_true hb
   by_cases ha : fa < 0
   ·have d1 : decide (fa < 0) = true := decide_eq_true ha
    have HN : Hid (((n : Nat) : Int) = (tz : Int)) := Lib.hid (by have h := HV.out; rw [Rl.firstR_true] at h; repeat' split at h <;> omega)
    clear HV ra rb
    have tok1 : True := trivial
    go_enter Tryz.func33, Tryz.ntmps33
    go_wp2_with (first | (go_at_call 62; have _t := tok1; ((with_reducible refine (CA.out).mono ?_); rintro e w1 ⟨rfl, b1⟩; have HB1 := Lib.hid b1; clear b1 tok1)) | (go_at_call 62; ((with_reducible refine (CB.out _ HB1.out).mono ?_); rintro e w2 ⟨rfl, b2⟩; have HB2 := Lib.hid (below_next HB1.out b2); clear b2)))
    go_ret
    exact ⟨by rw [HN.out]; rfl, HB2.out⟩
   ·have d1 : decide (fa < 0) = false := decide_eq_false ha
    have HN : Hid (((n : Nat) : Int) = fa) := Lib.hid (by have h := HV.out; rw [Rl.firstR_true] at h; repeat' split at h <;> omega)
    clear HV ra rb
    have tok1 : True := trivial
    go_enter Tryz.func33, Tryz.ntmps33
    go_wp2_with (first | (go_at_call 62; have _t := tok1; ((with_reducible refine (CA.out).mono ?_); rintro e w1 ⟨rfl, b1⟩; have HB1 := Lib.hid b1; clear b1 tok1)) | (go_at_call 62; ((with_reducible refine (CB.out _ HB1.out).mono ?_); rintro e w2 ⟨rfl, b2⟩; have HB2 := Lib.hid (below_next HB1.out b2); clear b2)))
    go_ret
    exact ⟨by rw [HN.out]; rfl, HB2.out⟩
  ·have d2 : decide (fb < 0) = false := decide_eq_false hb
   by_cases h0 : 0 <= fa
   ·have d3 : decide (0 <= fa) = true := decide_eq_true h0
    have d1 : decide (fa < 0) = false := decide_eq_false (by omega)
    by_cases hlt : fa < fb
    ·have d4 : decide (fa < fb) = true := decide_eq_true hlt
     have HN : Hid (((n : Nat) : Int) = fa) := Lib.hid (by have h := HV.out; rw [Rl.firstR_true] at h; repeat' split at h <;> omega)
     clear HV ra rb
     have tok1 : True := trivial
     go_enter Tryz.func33, Tryz.ntmps33
     go_wp2_with (first | (go_at_call 62; have _t := tok1; ((with_reducible refine (CA.out).mono ?_); rintro e w1 ⟨rfl, b1⟩; have HB1 := Lib.hid b1; clear b1 tok1)) | (go_at_call 62; ((with_reducible refine (CB.out _ HB1.out).mono ?_); rintro e w2 ⟨rfl, b2⟩; have HB2 := Lib.hid (below_next HB1.out b2); clear b2)))
     go_ret
     exact ⟨by rw [HN.out]; rfl, HB2.out⟩
    ·have d4 : decide (fa < fb) = false := decide_eq_false hlt
     have HN : Hid (((n : Nat) : Int) = fb) := Lib.hid (by have h := HV.out; rw [Rl.firstR_true] at h; repeat' split at h <;> omega)
     clear HV ra rb
     have tok1 : True := trivial
     go_enter Tryz.func33, Tryz.ntmps33
     go_wp2_with (first | (go_at_call 62; have _t := tok1; ((with_reducible refine (CA.out).mono ?_); rintro e w1 ⟨rfl, b1⟩; have HB1 := Lib.hid b1; clear b1 tok1)) | (go_at_call 62; ((with_reducible refine (CB.out _ HB1.out).mono ?_); rintro e w2 ⟨rfl, b2⟩; have HB2 := Lib.hid (below_next HB1.out b2); clear b2)))
     go_ret
     exact ⟨by rw [HN.out]; rfl, HB2.out⟩
   ·have d3 : decide (0 <= fa) = false := decide_eq_false h0
    have HN : Hid (((n : Nat) : Int) = fb) := Lib.hid (by have h := HV.out; rw [Rl.firstR_true] at h; repeat' split at h <;> omega)
    clear HV ra rb
    have tok1 : True := trivial
    go_enter Tryz.func33, Tryz.ntmps33
    go_wp2_with (first | (go_at_call 62; have _t := tok1; ((with_reducible refine (CA.out).mono ?_); rintro e w1 ⟨rfl, b1⟩; have HB1 := Lib.hid b1; clear b1 tok1)) | (go_at_call 62; ((with_reducible refine (CB.out _ HB1.out).mono ?_); rintro e w2 ⟨rfl, b2⟩; have HB2 := Lib.hid (below_next HB1.out b2); clear b2)))
    go_ret
    exact ⟨by rw [HN.out]; rfl, HB2.out⟩
namespace Rl
theorem gr_block {α : Type} {E : TypeId} {sz : Nat} {Ra : World -> α -> List Value -> Prop} {w0 wr : World} {v : Value} {us : List α} (h : Gr E sz Ra w0 v us wr) : ∀ b, v.ownBlock = some b -> b < wr.heap.size := fun b hb => by
 obtain ⟨xs, h1, _⟩ := h.own
 rcases h1.own.2 with ⟨rfl, _⟩ | ⟨g, c, cur, rfl, _, hh, _⟩
 ·cases hb
 ·have e : g = b := by simpa [Value.ownBlock] using hb
  subst e
  exact (Array.getElem?_eq_some_iff.1 hh).1
theorem fo_is {p : Tk.Tok -> Bool} {ts : List Tk.Tok} {a b : Nat} (hl : fo p ts a b < b) : p (Tk.tk ts (fo p ts a b)) = true := by
 unfold fo at hl ⊢
 by_cases hn : Ns.fnd (fun x => p (Tk.tk ts x)) (Ns.plc (Ns.ends ts) b a) = -1
 ·rw [if_pos hn] at hl; omega
 ·rw [if_neg hn]
  obtain ⟨x, _, e, hx⟩ := Rl.fnd_mem hn
  rw [e, Int.toNat_natCast]
  exact hx
theorem fo_end {ts : List Tk.Tok} {semi : Bool} {a b : Nat} (hb : b <= ts.length) (hl : fo (stB semi) ts a b < b) (h12 : (Tk.tk ts (fo (stB semi) ts a b)).1 = 12) : 0 <= Ru.g (Ns.ends ts) (fo (stB semi) ts a b) := by
 have hp := fo_is hl
 generalize fo (stB semi) ts a b = e at *
 have hbr : (Tk.tk ts e).1 = 12 /\ (Tk.tk ts e).2.1 = ⟨#[123]⟩ := by
  unfold stB brB seB at hp
  simp only [Bool.or_eq_true, Bool.and_eq_true, decide_eq_true_eq] at hp
  rcases hp with hp | ⟨_, hp⟩
  ·exact hp
  ·omega
 have hO : Ns.isO (Tk.tk ts e) := by
  unfold Ns.isO Ns.clo
  rw [if_neg (by rw [hbr.1, hbr.2]; decide), if_neg (by rw [hbr.1, hbr.2]; decide), if_pos hbr]
  decide
 rcases Ns.ends_range (ts := ts) (k := e) (by omega) with h | ⟨_, h, _⟩
 ·exact absurd hO h.1
 ·show 0 <= (Ns.ends ts).getD e 0
  omega
def BlkAt (sd : List Tk.Tok -> Bool) (ts : List Tk.Tok) (page : Bool) (fr tz : Nat) (w : World) (v12 v13 v14 : Value) (wr : World) : Prop :=
 ∃ (k : Nat) (ds : List Decl) (ms : List Margin), fr <= k /\ k <= ts.length + 1 /\ ds.length <= k /\ ms.length <= k /\ v14 = .int .i64 k /\ Hid (blk sd ts page fr tz = (ds ++ (blk sd ts page k tz).1, ms ++ (blk sd ts page k tz).2)) /\
   Hid (Gr 42 3 (DecQ true) w v12 ds wr) /\ Hid (Gr 49 2 (MarA v12.ownBlock) w v13 ms wr)
end Rl
theorem rblock_any (sd : List Tk.Tok -> Bool) (hsd : SdC sd) (ts : List Tk.Tok) (hF : Pr.FairB ts) (A C : Option Addr) (ca cc : Nat) (hca : ts.length <= ca) : ∀ (n : Nat) (page : Bool) (fr tz : Nat), tz - fr <= n -> fr <= ts.length + 1 -> tz <= ts.length ->
 ∀ (w : World), Ts w w.heap.size A ts -> Bs w w.heap.size .i64 C (Ns.ends ts) -> Calls Tryz.prog 35 #[.slice A ts.length ca, .slice C (Ns.ends ts).length cc, .int .i64 fr, .int .i64 tz, .bool page] w (ToldB (Rl.blk sd ts page fr tz) w) := fun n => by
 refine Nat.strongRecOn n (fun n ih page fr tz hn hfr hto w h h2 => ?_)
 have IH := Lib.hid ih
 have hm := hF.1
 have HEL := Lib.hid (Ns.ends_len ts)
 have H := Lib.hid h
 have H2 := Lib.hid h2
 clear ih h h2
 go_enter Tryz.func35, Tryz.ntmps35
 go_wp2_with fail
 go_loopw [12, 13, 14] (fun v12 v13 v14 wr => Rl.BlkAt sd ts page fr tz w v12 v13 v14 wr) (fun _ _ v14 _ => tz - (RowKit.intOf v14).toNat)
 case atStart => exact ⟨fr, [], [], Nat.le_refl _, hfr, Nat.zero_le _, Nat.zero_le _, rfl, Lib.hid rfl, Lib.hid (Rl.Gr.start (Below.refl _ _)), Lib.hid (Rl.Gr.start (Below.refl _ _))⟩
 case round =>
  obtain ⟨k, ds, ms, hk1, hk2, hd1, hm1, rfl, HV, HD, HM⟩ := hrel
  have HBR := Lib.hid HD.out.bel
  by_cases hlt : k < tz
  ·have hkl : k < ts.length := by omega
   obtain ⟨b, off, rfl, hb, hp⟩ := H.out (by omega)
   have HP := Lib.hid hp
   have HBb := Lib.hid hb
   clear hp hb
   obtain ⟨p0, p1, _⟩ := HP.out k hkl
   replace p0 := (HBR.out.cell (p := ⟨b, off + k * 3, none⟩) HBb.out).trans p0
   clear p1
   by_cases h1 : (Tk.tk ts k).1 = 1 ∨ (Tk.tk ts k).1 = 15
   ·have HN : Hid (Rl.blk sd ts page fr tz = (ds ++ (Rl.blk sd ts page (k + 1) tz).1, ms ++ (Rl.blk sd ts page (k + 1) tz).2)) := Lib.hid (by rw [HV.out, Rl.blk_skip sd ts hlt h1])
    rcases h1 with h1 | h1
    ·rw [h1] at p0
     clear h1 HV
     go_wp2_with fail
     go_roundw
     case rel => exact ⟨k + 1, ds, ms, by omega, by omega, by omega, by omega, by go_num, HN, HD, HM⟩
     case measure => simp [RowKit.intOf]; omega
    ·rw [h1] at p0
     clear h1 HV
     go_wp2_with fail
     go_roundw
     case rel => exact ⟨k + 1, ds, ms, by omega, by omega, by omega, by omega, by go_num, HN, HD, HM⟩
     case measure => simp [RowKit.intOf]; omega
   ·have n1 : ((Tk.tk ts k).1 == 1) = false := beq_false_of_ne (fun c => h1 (.inl c))
    have n15 : ((Tk.tk ts k).1 == 15) = false := beq_false_of_ne (fun c => h1 (.inr c))
    by_cases h4 : (Tk.tk ts k).1 = 4
    ·have HF1 := Lib.hid (HP.out k hkl).2.1
     have p1 := HF1.out
     have hfb := Rl.fo_bd (Rl.stB true) ts (show k + 1 <= tz by omega)
     have HSZ := Lib.hid (hF.2 k hkl)
     rw [h4] at p0
     have CF : Hid (Calls Tryz.prog 33 #[.slice (some ⟨b, off, none⟩) ts.length ca, .slice C (Ns.ends ts).length cc, .int .i64 ((k : Int) + 1), .int .i64 tz, .bool true] wr (Nu ((Rl.fo (Rl.stB true) ts (k + 1) tz : Nat) : Int) wr)) := Lib.hid (by
      have := rfirst_any ts (by omega) (some ⟨b, off, none⟩) C ca cc (k + 1) tz (by omega) hto true wr (H.out.next HBR.out) (H2.out.next HBR.out)
      rwa [show ((k + 1 : Nat) : Int) = (k : Int) + 1 by omega] at this)
     have HT : Hid (Rl.marAt ts page k tz (Rl.fo (Rl.stB true) ts (k + 1) tz) -> Rl.blk sd ts page fr tz = (ds ++ (Rl.blk sd ts page (Ns.sk (Ns.ends ts) (Rl.fo (Rl.stB true) ts (k + 1) tz)) tz).1, (ms ++ [(Ru.lowS (Tk.tk ts k).2.1, (Rl.blk sd ts false (Rl.fo (Rl.stB true) ts (k + 1) tz + 1) (min (Ru.g (Ns.ends ts) (Rl.fo (Rl.stB true) ts (k + 1) tz)).toNat tz)).1)]) ++ (Rl.blk sd ts page (Ns.sk (Ns.ends ts) (Rl.fo (Rl.stB true) ts (k + 1) tz)) tz).2)) := Lib.hid fun hma => by
      rw [HV.out, Rl.blk_mar sd ts hlt h4 hma]; simp
     have HF : Hid (¬ Rl.marAt ts page k tz (Rl.fo (Rl.stB true) ts (k + 1) tz) -> Rl.blk sd ts page fr tz = (ds ++ (Rl.blk sd ts page (Ns.sk (Ns.ends ts) (Rl.fo (Rl.stB true) ts (k + 1) tz)) tz).1, ms ++ (Rl.blk sd ts page (Ns.sk (Ns.ends ts) (Rl.fo (Rl.stB true) ts (k + 1) tz)) tz).2)) := Lib.hid fun hma => by
      rw [HV.out, Rl.blk_at sd ts hlt h4 hma]
     have HGE : Hid (Rl.fo (Rl.stB true) ts (k + 1) tz < tz -> (Tk.tk ts (Rl.fo (Rl.stB true) ts (k + 1) tz)).1 = 12 -> 0 <= Ru.g (Ns.ends ts) (Rl.fo (Rl.stB true) ts (k + 1) tz)) := Lib.hid (Rl.fo_end hto)
     clear HV h1 h4
     generalize Rl.fo (Rl.stB true) ts (k + 1) tz = e1 at *
     have hs0 := Ns.sk_gt (Ns.ends ts) e1
     have hs1 : Ns.sk (Ns.ends ts) e1 <= ts.length + 1 := by
      by_cases he : e1 < ts.length
      ·have := Ns.sk_le (es := Ns.ends ts) (a := e1) (by rw [HEL.out]; exact he)
       rw [HEL.out] at this; omega
      ·unfold Ns.sk
       rw [Ns.skp_no (fun c => by have := c.2.1; rw [HEL.out] at this; omega)]; omega
     have CS : Hid (∀ W, Below w.heap.size w W -> Calls Tryz.prog 36 #[.slice C (Ns.ends ts).length cc, .int .i64 e1] W (fun e w' => e = .returned (.int .i64 (Ns.sk (Ns.ends ts) e1 : Nat)) /\ W = w')) := Lib.hid fun W hb => by
      rw [Ns.sk_eq]; exact rskip_any (Ns.ends ts) (Ns.ends_fit (by omega)) C cc e1 (by omega) W (H2.out.next hb)
     have CB : Hid (∀ W, Calls Tryz.prog 22 #[.string (Tk.tk ts k).2.1] W (fun e w' => e = .returned (.int .i64 (Rl.box (Tk.tk ts k).2.1)) /\ Below W.heap.size W w')) := Lib.hid fun W => rbox_any _ HSZ.out W
     have CL : Hid (∀ W, Calls Tryz.prog 24 #[.string (Tk.tk ts k).2.1] W (Sg (Ru.lowS (Tk.tk ts k).2.1) W)) := Lib.hid fun W => rlower_any _ HSZ.out W
     have CC : Hid (∀ W, Below w.heap.size w W -> Calls Tryz.prog 34 #[.slice (some ⟨b, off, none⟩) ts.length ca, .int .i64 ((k : Int) + 1), .int .i64 e1] W (ToldT (Rl.trim (Rl.sub ts (k + 1) e1)) W)) := Lib.hid fun W hb => by
      have := rcut_any ts (by omega) (some ⟨b, off, none⟩) ca hca (k + 1) e1 hfb.1 (by omega) W (H.out.next hb)
      rwa [show ((k + 1 : Nat) : Int) = (k : Int) + 1 by omega] at this
     generalize HN9 : Ns.sk (Ns.ends ts) e1 = n9 at *
     clear HN9
     by_cases c1 : e1 < tz
     ·have hel1 : e1 < ts.length := by omega
      have pe := (HP.out e1 hel1).1
      by_cases c2 : (Tk.tk ts e1).1 = 12
      ·rw [c2] at pe
       cases page
       ·have HN := Lib.hid (HF.out (fun c => Bool.noConfusion c.2.2.1))
        clear HF HT
        generalize Rl.box (Tk.tk ts k).2.1 = bx at *
        generalize Ru.lowS (Tk.tk ts k).2.1 = ls at *
        generalize (Tk.tk ts k).2.1 = s0 at *
        go_wp2_with (first | (go_at_call 33; ((with_reducible refine (CF.out).mono ?_); rintro e w1 ⟨rfl, b1⟩; have HB1 := Lib.hid b1; have HBW1 := Lib.hid (below_next HBR.out b1); have q1 := (HBW1.out.cell (p := ⟨b, off + k * 3 + 1, none⟩) HBb.out).trans p1; have q0 := (HBW1.out.cell (p := ⟨b, off + e1 * 3, none⟩) HBb.out).trans pe; clear b1)) | (go_at_call 36; ((with_reducible refine (CS.out _ HBW1.out).mono ?_); rintro e w9 ⟨rfl, rfl⟩)))
        go_roundw
        case rel => exact ⟨n9, ds, ms, by omega, by omega, by omega, by omega, by go_num, HN, Lib.hid (HD.out.next (Rl.keeps_dec true) HB1.out), Lib.hid (HM.out.next (Rl.keeps_marA _) HB1.out)⟩
        case measure => simp [RowKit.intOf]; omega
       ·by_cases c4 : 0 <= Rl.box (Tk.tk ts k).2.1
        ·have d4 : decide (0 <= Rl.box (Tk.tk ts k).2.1) = true := decide_eq_true c4
         by_cases c5 : Rl.trim (Rl.sub ts (k + 1) e1) = []
         ·have HN := Lib.hid (HT.out (by unfold Rl.marAt; exact ⟨c1, c2, rfl, c4, c5⟩))
          have hge := HGE.out c1 c2
          obtain ⟨bC, oC, rfl, hbC, hpC⟩ := H2.out (by rw [HEL.out]; omega)
          have HBC := Lib.hid hbC
          have pc := hpC e1 (by rw [HEL.out]; exact hel1)
          have hec : (e1 : Int) < ((Ns.ends ts).length : Int) := by rw [HEL.out]; omega
          have hq : min (Ru.g (Ns.ends ts) e1) (tz : Int) = ((min (Ru.g (Ns.ends ts) e1).toNat tz : Nat) : Int) := by omega
          have CN : Hid (∀ W, Below w.heap.size w W -> Calls Tryz.prog 35 #[.slice (some ⟨b, off, none⟩) ts.length ca, .slice (some ⟨bC, oC, none⟩) (Ns.ends ts).length cc, .int .i64 ((e1 : Int) + 1), .int .i64 (min (Ru.g (Ns.ends ts) e1) (tz : Int)), .bool false] W (ToldB (Rl.blk sd ts false (e1 + 1) (min (Ru.g (Ns.ends ts) e1).toNat tz)) W)) := Lib.hid fun W hb => by
           have := IH.out (min (Ru.g (Ns.ends ts) e1).toNat tz - (e1 + 1)) (by omega) false (e1 + 1) (min (Ru.g (Ns.ends ts) e1).toNat tz) (Nat.le_refl _) (by omega) (by omega) W (H.out.next hb) (H2.out.next hb)
           rwa [hq, show ((e1 : Int) + 1) = ((e1 + 1 : Nat) : Int) by omega]
          have z6 : (Rl.trim (Rl.sub ts (k + 1) e1)).length = 0 := by rw [c5]; rfl
          have HAV : Hid (∀ (A4 : Option Addr) (s3 s4 : Nat) {s5 : Nat}, wr.heap.size <= s3 -> (Rl.New s3 A4 /\ ∀ b off, A4 = some ⟨b, off, none⟩ -> b < s4) -> s4 <= s5 -> ∀ b off, A4 = some ⟨b, off, none⟩ -> u12.ownBlock ≠ some b /\ b < s5) := Lib.hid fun A4 s3 s4 s5 h1 h2 h3 b off hA => by
           have hb1 := h2.1 b off hA
           have hb2 := h2.2 b off hA
           exact ⟨fun e => by have := Rl.gr_block HD.out b e; omega, by omega⟩
          clear c5 hpC hbC hge hq HGE c2 c4
          generalize Rl.trim (Rl.sub ts (k + 1) e1) = pr at *
          generalize HRN : Rl.blk sd ts false (e1 + 1) (min (Ru.g (Ns.ends ts) e1).toNat tz) = rn at *
          clear HRN HF HT
          generalize Ru.g (Ns.ends ts) e1 = ge at *
          have hml : (ms ++ [(Ru.lowS (Tk.tk ts k).2.1, rn.1)]).length <= n9 := by rw [List.length_append]; simp only [List.length_cons, List.length_nil]; omega
          generalize Rl.box (Tk.tk ts k).2.1 = bx at *
          generalize Ru.lowS (Tk.tk ts k).2.1 = ls at *
          generalize (Tk.tk ts k).2.1 = s0 at *
          go_wp2_with (first | (go_at_call 33; ((with_reducible refine (CF.out).mono ?_); rintro e w1 ⟨rfl, b1⟩; have HB1 := Lib.hid b1; have HBW1 := Lib.hid (below_next HBR.out b1); have q1 := (HBW1.out.cell (p := ⟨b, off + k * 3 + 1, none⟩) HBb.out).trans p1; have q0 := (HBW1.out.cell (p := ⟨b, off + e1 * 3, none⟩) HBb.out).trans pe; clear b1)) | (go_at_call 22; ((with_reducible refine (CB.out _).mono ?_); rintro e w2 ⟨rfl, b2⟩; have HB2 := Lib.hid (below_next HB1.out b2); have HBW2 := Lib.hid (below_next HBR.out HB2.out); clear b2)) | (go_at_call 34; ((with_reducible refine (CC.out _ HBW2.out).mono ?_); rintro e w3 ⟨A3, c3, rfl, hc3, _, b3⟩; have HB3 := Lib.hid (below_next HB2.out b3); have HBW3 := Lib.hid (below_next HBR.out HB3.out); have q3 := (HBW3.out.cell (p := ⟨bC, oC + e1, none⟩) HBC.out).trans pc; clear b3)) | (go_at_call 35; ((with_reducible refine (CN.out _ HBW3.out).mono ?_); rintro e w4 ⟨A4, c4', A5, c5', rfl, hc4, _, T4, Y4, N4, _, _, b4⟩; have HB4 := Lib.hid (below_next HB3.out b4); have HBW4 := Lib.hid (below_next HBR.out HB4.out); have q4 := (HBW4.out.cell (p := ⟨b, off + k * 3 + 1, none⟩) HBb.out).trans p1; have HT4 := Lib.hid T4; have HY4 := Lib.hid Y4; have HN4 := Lib.hid N4; have HS3 := Lib.hid HB3.out.size; clear b4 T4 Y4 N4)) | (go_at_call 24; ((with_reducible refine (CL.out _).mono ?_); rintro e w5 ⟨rfl, b5⟩; have HB5 := Lib.hid (below_next HB4.out b5); have HT5 := Lib.hid (Rl.cells_next (Rl.keeps_dec true) HT4.out b5); have HY5 := Lib.hid (Rl.tyd_next HY4.out b5); have HS5 := Lib.hid b5.size; have HM5 := Lib.hid (HM.out.next (Rl.keeps_marA _) HB5.out); have HD5 := Lib.hid (HD.out.next (Rl.keeps_dec true) HB5.out); clear b5)) | (at_builtin; refine app_mar rfl _ _ rfl rfl HM5.out (ls, rn.1) A4 c4' hc4 HT5.out HY5.out (HAV.out _ _ _ HS3.out HN4.out HS5.out) _ _ rfl (by omega) ?_; intro v' w6 G1 G2; have HG1 := Lib.hid G1; have HG2 := Lib.hid G2; have HBW6 := Lib.hid G1.bel; clear G1 G2) | (go_at_call 36; ((with_reducible refine (CS.out _ HBW6.out).mono ?_); rintro e w9 ⟨rfl, rfl⟩)))
          go_roundw
          case rel => exact ⟨n9, ds, ms ++ [(ls, rn.1)], by omega, by omega, by omega, hml, by go_num, HN, Lib.hid (HD5.out.only (by decide) (Rl.kT_dec2 (by decide)) HG2.out HG1.out.bel), HG1⟩
          case measure => simp [RowKit.intOf]; omega
         ·have HN := Lib.hid (HF.out (fun c => c5 c.2.2.2.2))
          have z5 : 0 < (Rl.trim (Rl.sub ts (k + 1) e1)).length := List.length_pos_iff.2 c5
          have z6 : ((Rl.trim (Rl.sub ts (k + 1) e1)).length == 0) = false := beq_false_of_ne (by omega)
          have z7 : (((Rl.trim (Rl.sub ts (k + 1) e1)).length : Int) == 0) = false := beq_false_of_ne (by omega)
          clear c5
          generalize Rl.trim (Rl.sub ts (k + 1) e1) = pr at *
          clear HF HT
          generalize Rl.box (Tk.tk ts k).2.1 = bx at *
          generalize Ru.lowS (Tk.tk ts k).2.1 = ls at *
          generalize (Tk.tk ts k).2.1 = s0 at *
          go_wp2_with (first | (go_at_call 33; ((with_reducible refine (CF.out).mono ?_); rintro e w1 ⟨rfl, b1⟩; have HB1 := Lib.hid b1; have HBW1 := Lib.hid (below_next HBR.out b1); have q1 := (HBW1.out.cell (p := ⟨b, off + k * 3 + 1, none⟩) HBb.out).trans p1; have q0 := (HBW1.out.cell (p := ⟨b, off + e1 * 3, none⟩) HBb.out).trans pe; clear b1)) | (go_at_call 22; ((with_reducible refine (CB.out _).mono ?_); rintro e w2 ⟨rfl, b2⟩; have HB2 := Lib.hid (below_next HB1.out b2); have HBW2 := Lib.hid (below_next HBR.out HB2.out); clear b2)) | (go_at_call 34; ((with_reducible refine (CC.out _ HBW2.out).mono ?_); rintro e w3 ⟨A3, c3, rfl, hc3, _, b3⟩; have HB3 := Lib.hid (below_next HB2.out b3); have HBW3 := Lib.hid (below_next HBR.out HB3.out); clear b3)) | (go_at_call 36; ((with_reducible refine (CS.out _ HBW3.out).mono ?_); rintro e w9 ⟨rfl, rfl⟩)))
          go_roundw
          case rel => exact ⟨n9, ds, ms, by omega, by omega, by omega, by omega, by go_num, HN, Lib.hid (HD.out.next (Rl.keeps_dec true) HB3.out), Lib.hid (HM.out.next (Rl.keeps_marA _) HB3.out)⟩
          case measure => simp [RowKit.intOf]; omega
        ·have d4 : decide (0 <= Rl.box (Tk.tk ts k).2.1) = false := decide_eq_false c4
         have HN := Lib.hid (HF.out (fun c => c4 c.2.2.2.1))
         clear HF HT
         generalize Rl.box (Tk.tk ts k).2.1 = bx at *
         generalize Ru.lowS (Tk.tk ts k).2.1 = ls at *
         generalize (Tk.tk ts k).2.1 = s0 at *
         go_wp2_with (first | (go_at_call 33; ((with_reducible refine (CF.out).mono ?_); rintro e w1 ⟨rfl, b1⟩; have HB1 := Lib.hid b1; have HBW1 := Lib.hid (below_next HBR.out b1); have q1 := (HBW1.out.cell (p := ⟨b, off + k * 3 + 1, none⟩) HBb.out).trans p1; have q0 := (HBW1.out.cell (p := ⟨b, off + e1 * 3, none⟩) HBb.out).trans pe; clear b1)) | (go_at_call 22; ((with_reducible refine (CB.out _).mono ?_); rintro e w2 ⟨rfl, b2⟩; have HB2 := Lib.hid (below_next HB1.out b2); have HBW2 := Lib.hid (below_next HBR.out HB2.out); clear b2)) | (go_at_call 36; ((with_reducible refine (CS.out _ HBW2.out).mono ?_); rintro e w9 ⟨rfl, rfl⟩)))
         go_roundw
         case rel => exact ⟨n9, ds, ms, by omega, by omega, by omega, by omega, by go_num, HN, Lib.hid (HD.out.next (Rl.keeps_dec true) HB2.out), Lib.hid (HM.out.next (Rl.keeps_marA _) HB2.out)⟩
         case measure => simp [RowKit.intOf]; omega
      ·have HN := Lib.hid (HF.out (fun c => c2 c.2.1))
       have e12 : ((Tk.tk ts e1).1 == 12) = false := beq_false_of_ne c2
       clear c2
       clear HF HT
       generalize Rl.box (Tk.tk ts k).2.1 = bx at *
       generalize Ru.lowS (Tk.tk ts k).2.1 = ls at *
       generalize (Tk.tk ts k).2.1 = s0 at *
       generalize (Tk.tk ts e1).1 = ke at *
       go_wp2_with (first | (go_at_call 33; ((with_reducible refine (CF.out).mono ?_); rintro e w1 ⟨rfl, b1⟩; have HB1 := Lib.hid b1; have HBW1 := Lib.hid (below_next HBR.out b1); have q1 := (HBW1.out.cell (p := ⟨b, off + k * 3 + 1, none⟩) HBb.out).trans p1; have q0 := (HBW1.out.cell (p := ⟨b, off + e1 * 3, none⟩) HBb.out).trans pe; clear b1)) | (go_at_call 36; ((with_reducible refine (CS.out _ HBW1.out).mono ?_); rintro e w9 ⟨rfl, rfl⟩)))
       go_roundw
       case rel => exact ⟨n9, ds, ms, by omega, by omega, by omega, by omega, by go_num, HN, Lib.hid (HD.out.next (Rl.keeps_dec true) HB1.out), Lib.hid (HM.out.next (Rl.keeps_marA _) HB1.out)⟩
       case measure => simp [RowKit.intOf]; omega
     ·have HN := Lib.hid (HF.out (fun c => c1 c.1))
      clear HF HT
      generalize Rl.box (Tk.tk ts k).2.1 = bx at *
      generalize Ru.lowS (Tk.tk ts k).2.1 = ls at *
      generalize (Tk.tk ts k).2.1 = s0 at *
      go_wp2_with (first | (go_at_call 33; ((with_reducible refine (CF.out).mono ?_); rintro e w1 ⟨rfl, b1⟩; have HB1 := Lib.hid b1; have HBW1 := Lib.hid (below_next HBR.out b1); have q1 := (HBW1.out.cell (p := ⟨b, off + k * 3 + 1, none⟩) HBb.out).trans p1; clear b1)) | (go_at_call 36; ((with_reducible refine (CS.out _ HBW1.out).mono ?_); rintro e w9 ⟨rfl, rfl⟩)))
      go_roundw
      case rel => exact ⟨n9, ds, ms, by omega, by omega, by omega, by omega, by go_num, HN, Lib.hid (HD.out.next (Rl.keeps_dec true) HB1.out), Lib.hid (HM.out.next (Rl.keeps_marA _) HB1.out)⟩
      case measure => simp [RowKit.intOf]; omega
    ·have n4 : ((Tk.tk ts k).1 != 4) = true := Ru.ne_t h4
     have n4b : ((Tk.tk ts k).1 == 4) = false := beq_false_of_ne h4
     have HN0 : Hid (Rl.blk sd ts page fr tz = (ds ++ (Rl.addD (Rl.declL sd (Rl.sub ts k (Rl.fo Rl.seB ts k tz))) (Rl.blk sd ts page (Rl.fo Rl.seB ts k tz) tz)).1, ms ++ (Rl.addD (Rl.declL sd (Rl.sub ts k (Rl.fo Rl.seB ts k tz))) (Rl.blk sd ts page (Rl.fo Rl.seB ts k tz) tz)).2)) := Lib.hid (by rw [HV.out, Rl.blk_decl sd ts hlt h1 h4])
     have hfb := Rl.fo_bd Rl.seB ts (Nat.le_of_lt hlt)
     have hfl := Rl.fo_lt (p := Rl.seB) hlt (decide_eq_false (fun c => h1 (.inr c)))
     have CF : Hid (Calls Tryz.prog 62 #[.slice (some ⟨b, off, none⟩) ts.length ca, .slice C (Ns.ends ts).length cc, .int .i64 k, .int .i64 tz, .int .i64 15, .string ⟨#[]⟩] wr (Nu (Ns.fnd (fun x => Rl.seB (Tk.tk ts x)) (Ns.plc (Ns.ends ts) tz k)) wr)) :=
      Lib.hid (rfind_any ts (Ns.ends ts) (Ns.ends_fit (by omega)) (by rw [HEL.out]; exact Nat.le_refl _) (some ⟨b, off, none⟩) C ca cc k tz (by omega) (by rw [HEL.out]; omega) 15 wr (H.out.next HBR.out) (H2.out.next HBR.out))
     have CD : Hid (∀ W, Below w.heap.size w W -> Calls Tryz.prog 64 #[.slice (some ⟨b, off, none⟩) ts.length ca, .int .i64 k, .int .i64 (Rl.fo Rl.seB ts k tz : Nat)] W (ToldD (Rl.declL sd (Rl.sub ts k (Rl.fo Rl.seB ts k tz))) W)) :=
      Lib.hid fun W hb => rdecl_any sd hsd ts hF (some ⟨b, off, none⟩) ca hca k (Rl.fo Rl.seB ts k tz) hfb.1 (by omega) W (H.out.next hb)
     have hfo : Rl.fo Rl.seB ts k tz = if Ns.fnd (fun x => Rl.seB (Tk.tk ts x)) (Ns.plc (Ns.ends ts) tz k) = -1 then tz else (Ns.fnd (fun x => Rl.seB (Tk.tk ts x)) (Ns.plc (Ns.ends ts) tz k)).toNat := rfl
     have hra := Rl.fnd_range (fun x => Rl.seB (Tk.tk ts x)) (Ns.plc (Ns.ends ts) tz k)
     clear h1 h4 HV
     generalize (Tk.tk ts k).1 = kk at *
     generalize Rl.declL sd (Rl.sub ts k (Rl.fo Rl.seB ts k tz)) = rd at *
     generalize Ns.fnd (fun x => Rl.seB (Tk.tk ts x)) (Ns.plc (Ns.ends ts) tz k) = fa at *
     generalize Rl.fo Rl.seB ts k tz = e1 at *
     by_cases hfa : fa < 0
     ·have d1 : decide (fa < 0) = true := decide_eq_true hfa
      obtain rfl : e1 = tz := by rw [hfo, if_pos (by omega)]
      clear hfo hra
      go_upto_region 12 with (first | (go_at_call 62; ((with_reducible refine (CF.out).mono ?_); rintro e w1 ⟨rfl, b1⟩; have HB1 := Lib.hid b1; have HBW1 := Lib.hid (below_next HBR.out b1); clear b1)) | (go_at_call 64; ((with_reducible refine (CD.out _ HBW1.out).mono ?_); rintro e w2 ⟨d, bb, A3, c3, rfl, hc3, T3, b2, hres⟩; have HB2 := Lib.hid (below_next HB1.out b2); have HT3 := Lib.hid T3; have HRES := Lib.hid hres; clear b2 T3 hres)))
      have k3 := heap_alloc_new w2 (.cells #[.string d.1, .slice A3 d.2.1.length c3, .bool d.2.2] 42)
      have b3 := HB2.out.alloc HB2.out.size (.cells #[.string d.1, .slice A3 d.2.1.length c3, .bool d.2.2] 42)
      have t3 := HT3.out.next ((Below.refl w2.heap.size w2).alloc (Nat.le_refl _) (.cells #[.string d.1, .slice A3 d.2.1.length c3, .bool d.2.2] 42))
      generalize w2.alloc (.cells #[.string d.1, .slice A3 d.2.1.length c3, .bool d.2.2] 42) = w3 at k3 b3 t3 ⊢
      obtain ⟨⟨y0, y1, y2⟩, _⟩ := dec_cells k3
      have HT4 := Lib.hid t3
      have HD3 := Lib.hid (HD.out.next (Rl.keeps_dec true) b3)
      have HM3 := Lib.hid (HM.out.next (Rl.keeps_marA _) b3)
      clear k3 b3 t3 p0
      cases bb
      ·have HN : Hid (Rl.blk sd ts page fr e1 = (ds ++ (Rl.blk sd ts page e1 e1).1, ms ++ (Rl.blk sd ts page e1 e1).2)) := Lib.hid (by rw [HN0.out, HRES.out]; rfl)
       clear HN0 HRES CD CF
       go_wp2_with fail
       go_roundw
       case rel => exact ⟨e1, ds, ms, by omega, by omega, by omega, by omega, by go_num, HN, HD3, HM3⟩
       case measure => simp [RowKit.intOf]; omega
      ·have HN : Hid (Rl.blk sd ts page fr e1 = ((ds ++ [d]) ++ (Rl.blk sd ts page e1 e1).1, ms ++ (Rl.blk sd ts page e1 e1).2)) := Lib.hid (by rw [HN0.out, HRES.out]; simp [Rl.addD])
       have hdl : (ds ++ [d]).length <= e1 := by rw [List.length_append]; simp only [List.length_cons, List.length_nil]; omega
       clear HN0 HRES CD CF
       go_wp2_with (at_builtin; refine app_dec rfl _ _ rfl rfl HD3.out d A3 c3 hc3 HT4.out _ _ rfl (by omega) ?_; intro v' w4 G1 G2 G3; have HG1 := Lib.hid G1; have HG2 := Lib.hid G2; have HG3 := Lib.hid G3; clear G1 G2 G3)
       go_roundw
       case rel => exact ⟨e1, ds ++ [d], ms, by omega, by omega, hdl, by omega, by go_num, HN, HG1, Lib.hid (Rl.gr_decl HM3.out HG2.out HG1.out.bel HG3.out)⟩
       case measure => simp [RowKit.intOf]; omega
     ·obtain ⟨m, rfl⟩ : ∃ m : Nat, fa = m := ⟨fa.toNat, by omega⟩
      have d1 : decide ((m : Int) < 0) = false := decide_eq_false hfa
      obtain rfl : e1 = m := by rw [hfo, if_neg (by omega)]; rfl
      clear hfo hra
      go_upto_region 12 with (first | (go_at_call 62; ((with_reducible refine (CF.out).mono ?_); rintro e w1 ⟨rfl, b1⟩; have HB1 := Lib.hid b1; have HBW1 := Lib.hid (below_next HBR.out b1); clear b1)) | (go_at_call 64; ((with_reducible refine (CD.out _ HBW1.out).mono ?_); rintro e w2 ⟨d, bb, A3, c3, rfl, hc3, T3, b2, hres⟩; have HB2 := Lib.hid (below_next HB1.out b2); have HT3 := Lib.hid T3; have HRES := Lib.hid hres; clear b2 T3 hres)))
      have k3 := heap_alloc_new w2 (.cells #[.string d.1, .slice A3 d.2.1.length c3, .bool d.2.2] 42)
      have b3 := HB2.out.alloc HB2.out.size (.cells #[.string d.1, .slice A3 d.2.1.length c3, .bool d.2.2] 42)
      have t3 := HT3.out.next ((Below.refl w2.heap.size w2).alloc (Nat.le_refl _) (.cells #[.string d.1, .slice A3 d.2.1.length c3, .bool d.2.2] 42))
      generalize w2.alloc (.cells #[.string d.1, .slice A3 d.2.1.length c3, .bool d.2.2] 42) = w3 at k3 b3 t3 ⊢
      obtain ⟨⟨y0, y1, y2⟩, _⟩ := dec_cells k3
      have HT4 := Lib.hid t3
      have HD3 := Lib.hid (HD.out.next (Rl.keeps_dec true) b3)
      have HM3 := Lib.hid (HM.out.next (Rl.keeps_marA _) b3)
      clear k3 b3 t3 p0
      cases bb
      ·have HN : Hid (Rl.blk sd ts page fr tz = (ds ++ (Rl.blk sd ts page e1 tz).1, ms ++ (Rl.blk sd ts page e1 tz).2)) := Lib.hid (by rw [HN0.out, HRES.out]; rfl)
       clear HN0 HRES CD CF
       go_wp2_with fail
       go_roundw
       case rel => exact ⟨e1, ds, ms, by omega, by omega, by omega, by omega, by go_num, HN, HD3, HM3⟩
       case measure => simp [RowKit.intOf]; omega
      ·have HN : Hid (Rl.blk sd ts page fr tz = ((ds ++ [d]) ++ (Rl.blk sd ts page e1 tz).1, ms ++ (Rl.blk sd ts page e1 tz).2)) := Lib.hid (by rw [HN0.out, HRES.out]; simp [Rl.addD])
       have hdl : (ds ++ [d]).length <= e1 := by rw [List.length_append]; simp only [List.length_cons, List.length_nil]; omega
       clear HN0 HRES CD CF
       go_wp2_with (at_builtin; refine app_dec rfl _ _ rfl rfl HD3.out d A3 c3 hc3 HT4.out _ _ rfl (by omega) ?_; intro v' w4 G1 G2 G3; have HG1 := Lib.hid G1; have HG2 := Lib.hid G2; have HG3 := Lib.hid G3; clear G1 G2 G3)
       go_roundw
       case rel => exact ⟨e1, ds ++ [d], ms, by omega, by omega, hdl, by omega, by go_num, HN, HG1, Lib.hid (Rl.gr_decl HM3.out HG2.out HG1.out.bel HG3.out)⟩
       case measure => simp [RowKit.intOf]; omega
  ·have HN : Hid (Rl.blk sd ts page fr tz = (ds, ms)) := Lib.hid (by rw [HV.out, Rl.blk_end sd ts hlt, List.append_nil, List.append_nil])
   have HR := Lib.hid (told_block HD.out HM.out)
   clear HV HD HM
   go_wp2_with fail
   exact bodyPost_ret (v := .tuple #[u12, u13]) (by simp [results, Tryz.results35, go_sem]) rfl (by rw [HN.out]; exact HR.out)
structure BTab (B : Nat) (w : World) : Prop where
 cell : ∀ k, k < 16 -> w.cell? ⟨0, k, none⟩ = some (.string (Rl.bx k))
 lt : 0 < B
theorem BTab.next {w w1 : World} (h : BTab w.heap.size w) (hb : Below w.heap.size w w1) : BTab w1.heap.size w1 :=
 ⟨fun k hk => (hb.cell (p := ⟨0, k, none⟩) h.lt).trans (h.cell k hk), Nat.lt_of_lt_of_le h.lt hb.size⟩
theorem bx_index (W : World) : ∀ (k : Nat), k < 16 -> (Instr.index 76 (.agg Rl.boxV) (.int .i64 k)).run Tryz.prog W = .ok (.string (Rl.bx k)) W
 | 0, _ => by kernel_rfl
 | 1, _ => by kernel_rfl
 | 2, _ => by kernel_rfl
 | 3, _ => by kernel_rfl
 | 4, _ => by kernel_rfl
 | 5, _ => by kernel_rfl
 | 6, _ => by kernel_rfl
 | 7, _ => by kernel_rfl
 | 8, _ => by kernel_rfl
 | 9, _ => by kernel_rfl
 | 10, _ => by kernel_rfl
 | 11, _ => by kernel_rfl
 | 12, _ => by kernel_rfl
 | 13, _ => by kernel_rfl
 | 14, _ => by kernel_rfl
 | 15, _ => by kernel_rfl
 | k + 16, h => absurd h (by omega)
theorem bx_agg : Value.agg #[.string (Rl.bx 0), .string (Rl.bx 1), .string (Rl.bx 2), .string (Rl.bx 3), .string (Rl.bx 4), .string (Rl.bx 5), .string (Rl.bx 6), .string (Rl.bx 7), .string (Rl.bx 8), .string (Rl.bx 9), .string (Rl.bx 10), .string (Rl.bx 11), .string (Rl.bx 12), .string (Rl.bx 13), .string (Rl.bx 14), .string (Rl.bx 15)] = .agg Rl.boxV := rfl
theorem cbox_any (s : ByteArray) (hm : s.size <= 90000) (w : World) (hT : BTab w.heap.size w) :
 Calls Tryz.prog 19 #[.string s] w (Nu (Rl.box s) w) := by
 have C := Lib.hid (lower_any s w hm)
 have HV16 := Lib.hid bx_agg
 have HV : Hid (Rl.box s = Rl.idx (Ru.lowS s) (Rl.boxes.drop 0) (0 : Nat)) := Lib.hid rfl
 have HT := Lib.hid hT
 have HIX := Lib.hid bx_index
 generalize Rl.box s = res at *
 generalize Ru.lowS s = ls at *
 clear hT
 go_enter Tryz.func19, Tryz.ntmps19
 go_upto_region 3 with (go_at_call 43; ((with_reducible refine (C.out).mono ?_); rintro e w1 ⟨rfl, b1⟩; have HB1 := Lib.hid b1; have HC : ∀ k, k < 16 -> w1.cell? ⟨0, k, none⟩ = some (.string (Rl.bx k)) := fun k hk => (b1.cell (p := ⟨0, k, none⟩) HT.out.lt).trans (HT.out.cell k hk); have c0 := HC 0 (by decide); have c1 := HC 1 (by decide); have c2 := HC 2 (by decide); have c3 := HC 3 (by decide); have c4 := HC 4 (by decide); have c5 := HC 5 (by decide); have c6 := HC 6 (by decide); have c7 := HC 7 (by decide); have c8 := HC 8 (by decide); have c9 := HC 9 (by decide); have c10 := HC 10 (by decide); have c11 := HC 11 (by decide); have c12 := HC 12 (by decide); have c13 := HC 13 (by decide); have c14 := HC 14 (by decide); have c15 := HC 15 (by decide); clear HC b1))
 rw [HV16.out]
 clear HV16 c0 c1 c2 c3 c4 c5 c6 c7 c8 c9 c10 c11 c12 c13 c14 c15 C
 generalize hbv : Value.agg Rl.boxV = bv at *
 clear hbv
 go_loopw [8] (fun v8 wr => ∃ k : Nat, k <= 16 /\ v8 = .int .i64 k /\ Hid (res = Rl.idx ls (Rl.boxes.drop k) k) /\ wr = w1) (fun v8 _ => 16 - (RowKit.intOf v8).toNat)
 case atStart => exact ⟨0, by omega, rfl, HV, rfl⟩
 case round =>
  obtain ⟨k, hk, rfl, HR, rfl⟩ := hrel
  by_cases hlt : k < 16
  ·have hlc : (k : Int) < 16 := by omega
   have hix := HIX.out wr k hlt
   rw [Rl.idx_drop k ls hlt] at HR
   clear HV
   by_cases hx : Rl.bx k = ls
   ·have hxb : ((Rl.bx k).toList == ls.toList) = true := by rw [hx]; simp
    rw [if_pos hx] at HR
    clear hx HIX
    generalize Rl.bx k = bk at *
    go_wp2_with fail
    go_ret
    exact ⟨by rw [HR.out]; rfl, HB1.out⟩
   ·have hxb : ((Rl.bx k).toList == ls.toList) = false := by rw [str_same]; exact decide_eq_false hx
    rw [if_neg hx] at HR
    clear hx HIX
    generalize Rl.bx k = bk at *
    go_wp2_with fail
    go_roundw
    case rel => exact ⟨k + 1, by omega, by go_num, HR, trivial⟩
    case measure => simp [RowKit.intOf]; omega
  ·obtain rfl : k = 16 := by omega
   have HE : Hid (res = -1) := Lib.hid HR.out
   clear HR HV HIX
   go_wp2_with fail
   go_ret
   exact ⟨by rw [HE.out]; rfl, HB1.out⟩
def ToldS (l : List ByteArray) (w : World) (e : Ending) (w' : World) : Prop := ∃ (A : Option Addr) (cap : Nat), e = .returned (.slice A l.length cap) /\ l.length <= cap /\ Rl.Cells 1 Rl.StrQ w' A l /\ Below w.heap.size w w'
theorem Tryz.infoStr : (Tryz.prog.info? 9).map (fun i => (i.zero, i.size, i.bytes)) = some (some (.string ⟨#[]⟩), 1, 16) := by kernel_rfl
theorem app_str {ops : Array Oper} {rest : List Oper} {o : Oper} {a : Act} {Q : Exit -> Act -> World -> Prop} {w0 wr : World} {v : Value} {ss : List ByteArray} (hgd : o.guard = none) (s x : Operand)
 (ho : o.op = .call { callee := .builtin .append, args := #[s, x], argTypes := #[36, 36] }) (hs : a.eval s = v) (H : Rl.Gr 9 1 Rl.StrQ w0 v ss wr) (t : ByteArray) (c : Nat) (E' : TypeId)
 (hx : a.eval x = .slice (some ⟨wr.heap.size, 0, none⟩) 1 c) (hm : ss.length <= 1000000)
 (h : ∀ v' w3, Rl.Gr 9 1 Rl.StrQ w0 v' (ss ++ [t]) w3 -> wpList Tryz.prog ops Q rest (a.put o.dst v') w3) :
 wpList Tryz.prog ops Q (o :: rest) a (wr.alloc (.cells #[.string t] E')) := by
 obtain ⟨i0, hi, hz0, hz1, hz2⟩ := info_parts Tryz.infoStr
 exact Rl.Gr.app (E := 9) Rl.kT_str hgd s x 36 ho i0 _ 16 Tryz.underlying36 hi hz0 hz1 hz2 rfl (by decide) hs H t [.string t] rfl c E' hx rfl (by simp [Value.oneCell']) (by unfold maxLen; omega) (by omega) (fun v' w3 h1 _ _ => h v' w3 h1)
theorem boxes_snoc : ∀ (k : Nat), k < 16 -> Rl.boxes.take (k + 1) = Rl.boxes.take k ++ [Rl.bx k] := fun k hk => by
 unfold Rl.bx
 rw [List.take_add_one, List.getD_eq_getElem?_getD]
 have hl : k < Rl.boxes.length := hk
 rw [List.getElem?_eq_getElem hl]
 rfl
theorem cboxes_any (w : World) (hT : BTab w.heap.size w) : Calls Tryz.prog 23 #[] w (ToldS Rl.boxes w) := by
 have HV16 := Lib.hid bx_agg
 have HIX := Lib.hid bx_index
 have HC := hT.cell
 have c0 := HC 0 (by decide)
 have c1 := HC 1 (by decide)
 have c2 := HC 2 (by decide)
 have c3 := HC 3 (by decide)
 have c4 := HC 4 (by decide)
 have c5 := HC 5 (by decide)
 have c6 := HC 6 (by decide)
 have c7 := HC 7 (by decide)
 have c8 := HC 8 (by decide)
 have c9 := HC 9 (by decide)
 have c10 := HC 10 (by decide)
 have c11 := HC 11 (by decide)
 have c12 := HC 12 (by decide)
 have c13 := HC 13 (by decide)
 have c14 := HC 14 (by decide)
 have c15 := HC 15 (by decide)
 clear HC hT
 go_enter Tryz.func23, Tryz.ntmps23
 go_upto_region 3 with fail
 rw [HV16.out]
 clear HV16 c0 c1 c2 c3 c4 c5 c6 c7 c8 c9 c10 c11 c12 c13 c14 c15
 generalize hbv : Value.agg Rl.boxV = bv at *
 clear hbv
 go_loopw [1, 5] (fun v1 v5 wr => ∃ k : Nat, k <= 16 /\ v5 = .int .i64 k /\ Hid (Rl.Gr 9 1 Rl.StrQ w v1 (Rl.boxes.take k) wr)) (fun _ v5 _ => 16 - (RowKit.intOf v5).toNat)
 case atStart => exact ⟨0, by omega, rfl, Lib.hid (Rl.Gr.start (Below.refl _ _))⟩
 case round =>
  obtain ⟨k, hk, rfl, HG⟩ := hrel
  by_cases hlt : k < 16
  ·have hlc : (k : Int) < 16 := by omega
   have hix := HIX.out wr k hlt
   have HN := Lib.hid (boxes_snoc k hlt)
   have hll : (Rl.boxes.take k).length <= 1000000 := by rw [List.length_take]; omega
   clear HIX
   generalize Rl.bx k = bk at *
   go_wp2_with (at_builtin; refine app_str rfl _ _ rfl rfl HG.out bk _ _ rfl hll ?_; intro v' w3 H3; have HG3 := Lib.hid H3; clear H3)
   go_roundw
   case rel => exact ⟨k + 1, by omega, by go_num, by rw [HN.out]; exact HG3⟩
   case measure => simp [RowKit.intOf]; omega
  ·obtain rfl : k = 16 := by omega
   go_wp2_with fail
   go_ret
   obtain ⟨A, cap, rfl, hc, hC, _⟩ := HG.out.form
   exact ⟨A, cap, rfl, hc, hC, HG.out.bel⟩
end Go.Proofs.YtkcabpjfgbghjaaGreatDoor
