/-
  The walk of the reference's Parts.
-/
import Derived.Test.YtaofkaehhikfaaaGae
import Derived.Maps.AppendAt
import Derived.Test.YtaofkaehhikfaaaGac
import Derived.Test.YtaofkaehhikfaaaGad
import Derived.Deep.RegionWith
set_option maxHeartbeats 16000000
set_option maxRecDepth 100000
namespace Go.Proofs.Ytaofkaehhikfaaa
open Go.RowKit Vl
abbrev zPrt : Value := .agg #[.int .i64 0, .string ⟨#[]⟩, .int .i64 0, .slice none 0 0]
theorem Try.infoPrt : (Try.prog.info? 71).map (fun i => (i.zero, i.size, i.bytes)) = some (some zPrt, 4, 56) := by kernel_rfl
namespace Vl
theorem kT_prt {E : TypeId} {w : World} : Rl.KeepsT E (PrtQ w) := fun _ _ _ _ _ h _ => h
theorem keeps_prt {w : World} : Rl.Keeps (PrtQ w) := fun _ _ _ _ h _ => h
abbrev GrP (w w0 : World) (v : Value) (ps : List Prt) (wr : World) : Prop := Rl.Gr 71 4 (PrtQ w) w0 v ps wr
theorem app_prt {ops : Array Oper} {rest : List Oper} {o : Oper} {a : Act} {Q : Exit -> Act -> World -> Prop} {w w0 wr : World} {v : Value} {ps : List Prt} (hgd : o.guard = none) (s x : Operand)
 (ho : o.op = .call { callee := .builtin .append, args := #[s, x], argTypes := #[66, 66] }) (hs : a.eval s = v) (H : GrP w w0 v ps wr) (p : Prt) (A : Option Addr) (n cap : Nat) (hn : n = p.2.length) (hp : p.2.length <= cap /\ Ts w w.heap.size A p.2) (c : Nat) (E' : TypeId)
 (hx : a.eval x = .slice (some ⟨wr.heap.size, 0, none⟩) 1 c) (hm : ps.length <= 1000000)
 (h : ∀ v' w3, GrP w w0 v' (ps ++ [p]) w3 -> wpList Try.prog ops Q rest (a.put o.dst v') w3) :
 wpList Try.prog ops Q (o :: rest) a (wr.alloc (.cells #[.int .i64 p.1.1, .string p.1.2.1, .int .i64 p.1.2.2, .slice A n cap] E')) := by
 obtain ⟨i0, hi, hz0, hz1, hz2⟩ := info_parts Try.infoPrt
 subst hn
 exact Rl.Gr.app (E := 71) kT_prt hgd s x 66 ho i0 _ 56 Try.underlying66 hi hz0 hz1 hz2 rfl (by decide) hs H p [.int .i64 p.1.1, .string p.1.2.1, .int .i64 p.1.2.2, .slice A p.2.length cap] ⟨A, cap, rfl, hp.1, hp.2⟩ c E' hx rfl (by simp [Value.oneCell']) (by unfold maxLen; omega) (by omega) (fun v' w3 h1 _ _ => h v' w3 h1)
def ToldPr (ps : List Prt) (w : World) (e : Ending) (w' : World) : Prop :=
 ∃ (A : Option Addr) (cap : Nat), e = .returned (.tuple #[.slice A ps.length cap, .bool true]) /\ ps.length <= cap /\ Rl.Cells 4 (PrtQ w) w' A ps /\ Below w.heap.size w w'
def NoPr (w : World) (e : Ending) (w' : World) : Prop := e = .returned (.tuple #[.slice none 0 0, .bool false]) /\ Below w.heap.size w w'
def PrIs (o : Option (List Prt)) (w : World) (e : Ending) (w' : World) : Prop := (∀ ps, o = some ps -> ToldPr ps w e w') /\ (o = none -> NoPr w e w')
theorem PrIs.bad {o : Option (List Prt)} {w : World} {e : Ending} {w' : World} (ho : o = none) (h : NoPr w e w') : PrIs o w e w' := ⟨fun _ hp => by (rw [ho] at hp; cases hp), fun _ => h⟩
theorem PrIs.ok {o : Option (List Prt)} {ps : List Prt} {w : World} {e : Ending} {w' : World} (ho : o = some ps) (h : ToldPr ps w e w') : PrIs o w e w' := ⟨fun _ hp => by (rw [ho] at hp; injection hp with hp; subst hp; exact h), fun hp => by (rw [ho] at hp; cases hp)⟩
theorem G_len (ps : List Prt) : (G ps).length <= ps.length := List.length_filter_le _ _
theorem set_last {w : World} {k : Nat} {a b c d : Value} {E : TypeId} (h : w.heap[k]? = some (.cells #[a, b, c, d] E (0, 0))) (x : Value) : (w.setCell ⟨k, 3, none⟩ x).heap[k]? = some (.cells #[a, b, c, x] E (0, 0)) := by
 simp [World.setCell, Array.getElem?_modify, h]
theorem G_snoc (ps : List Prt) (p : Prt) : G (ps ++ [p]) = if p.1.1 = 1 then G ps else G ps ++ [p] := by
 unfold G
 rw [List.filter_append]
 by_cases h : p.1.1 = 1
 ·rw [if_pos h]; simp [h]
 ·rw [if_neg h]; simp [h]
theorem seg_ts {w : World} {B b off : Nat} {ts : List Tk.Tok} (h : Ts w B (some ⟨b, off, none⟩) ts) {lo hi : Nat} (hh : hi <= ts.length) : Ts w B (some ⟨b, off + lo * 3, none⟩) (seg ts lo hi) := fun h0 => by
 rw [seg_len hh] at h0
 obtain ⟨b', off', e, hb, hc⟩ := h (by omega)
 injection e with e
 injection e with e1 e2
 subst e1 e2
 refine ⟨b, off + lo * 3, rfl, hb, fun j hj => ?_⟩
 rw [seg_len hh] at hj
 have := hc (lo + j) (by omega)
 rw [seg_tk (by omega)]
 rw [show off + lo * 3 + j * 3 = off + (lo + j) * 3 by omega]
 exact this
end Vl
theorem vparts_any (v : List Tk.Tok) (hm : v.length <= 1000) (A : Option Addr) (cap : Nat) (hcap : v.length <= cap) (w : World) (h : Ts w w.heap.size A v) :
 Calls Try.prog 38 #[.slice A v.length cap] w (PrIs (rpt v) w) := by
 have CE : Hid (∀ W, Below w.heap.size w W -> Calls Try.prog 68 #[.slice A v.length cap] W (EndsIs v W)) := Lib.hid fun W hb => rends_any v (by omega) A cap W (h.next hb)
 by_cases hd : Ns.deep v
 ·have CE2 : Hid (∀ W, Below w.heap.size w W -> Calls Try.prog 68 #[.slice A v.length cap] W (EndsBad W)) := Lib.hid fun W hb => (CE.out W hb).mono fun e w' h => h.2 hd
  have HV : Hid (rpt v = none) := Lib.hid (by unfold rpt; rw [if_pos hd])
  have HB := Lib.hid (Below.refl w.heap.size w)
  clear CE h hd
  go_enter Try.func38, Try.ntmps38
  go_wp2_with (go_at_call 68; ((with_reducible refine (CE2.out _ HB.out).mono ?_); rintro e w2 ⟨rfl, b2⟩; have HB2 := Lib.hid b2; clear b2))
  go_ret2
  exact PrIs.bad HV.out ⟨rfl, HB2.out⟩
 ·have CE2 : Hid (∀ W, Below w.heap.size w W -> Calls Try.prog 68 #[.slice A v.length cap] W (EndsL (Ns.ends v) W)) := Lib.hid fun W hb => (CE.out W hb).mono fun e w' h => ends_rd (h.1 hd)
  have HV : Hid (rpt v = if (∀ x ∈ Ns.plc (Ns.ends v) v.length 0, Ru.g (Ns.ends v) x < v.length) then some (G ((Ns.plc (Ns.ends v) v.length 0).map fun x => (Tk.tk v x, arg v x))) else none) := Lib.hid (by
   unfold rpt
   rw [if_neg hd, parts_all]
   split <;> rfl)
  have CP : Hid (∀ W C cc, Bs W W.heap.size .i64 C (Ns.ends v) -> Calls Try.prog 69 #[.slice C (Ns.ends v).length cc, .int .i64 0, .int .i64 v.length] W (Told .i64 (Ns.ni (Ns.plc (Ns.ends v) v.length 0)) W)) := Lib.hid fun W C cc hB => by
   have := rplaces_any (Ns.ends v) (Ns.ends_fit (by omega)) C cc 0 v.length (Nat.zero_le _) (by rw [Ns.ends_len]; exact Nat.le_refl _) W hB
   exact this
  have HM : Hid (∀ x ∈ Ns.plc (Ns.ends v) v.length 0, x < v.length) := Lib.hid fun x hx => (Ns.plc_mem _ (Nat.le_refl _) hx).2
  have HL : Hid ((Ns.plc (Ns.ends v) v.length 0).length <= v.length) := Lib.hid (by have := Ns.plc_len (es := Ns.ends v) (tz := v.length) v.length 0 (by omega); omega)
  have HEL := Lib.hid (Ns.ends_len v)
  have HT := Lib.hid h
  have HB := Lib.hid (Below.refl w.heap.size w)
  have HER : Hid (∀ x, x < v.length -> (¬ Ns.isO (Tk.tk v x) /\ Ru.g (Ns.ends v) x = -1) ∨ (Ns.isO (Tk.tk v x) /\ (x : Int) < Ru.g (Ns.ends v) x /\ Ru.g (Ns.ends v) x <= v.length)) := Lib.hid fun x hx => Ns.ends_range hx
  clear CE h hd
  generalize hpl : Ns.plc (Ns.ends v) v.length 0 = pl at *
  clear hpl
  have HNL := Lib.hid (Ns.ni_len pl)
  go_enter Try.func38, Try.ntmps38
  go_wp2_with (first | (go_at_call 68; ((with_reducible refine (CE2.out _ HB.out).mono ?_); rintro e w2 ⟨A2, c2, rfl, hc2, B2, b2⟩; have HB2 := Lib.hid b2; have HS2 := Lib.hid B2; clear b2 B2)) | (go_at_call 69; ((with_reducible refine (CP.out _ _ _ HS2.out).mono ?_); rintro e w3 ⟨A3, c3, rfl, hc3, B3, b3⟩; have HB3 := Lib.hid (below_next HB2.out b3); have HE3 := Lib.hid (HS2.out.next b3); have HP3 := Lib.hid B3; clear b3 B3)))
  go_loopw [6, 8] (fun v6 v8 wr => ∃ k : Nat, k <= pl.length /\ v8 = .int .i64 k /\ Hid (∀ x ∈ pl.take k, Ru.g (Ns.ends v) x < v.length) /\ Hid (GrP w w3 v6 (G ((pl.take k).map fun x => (Tk.tk v x, arg v x))) wr)) (fun _ v8 _ => pl.length - (RowKit.intOf v8).toNat)
  case atStart => exact ⟨0, Nat.zero_le _, rfl, Lib.hid (fun x hx => by simp at hx), Lib.hid (Rl.Gr.start (Below.refl _ _))⟩
  case round =>
   obtain ⟨k, hk, rfl, HC, HG⟩ := hrel
   have HBk := Lib.hid HG.out.bel
   have hll := HL.out
   by_cases hlt : k < pl.length
   ·obtain ⟨b3, o3, rfl, hb3, hp3⟩ := HP3.out (by rw [HNL.out]; omega)
    have p3 := (HBk.out.cell (p := ⟨b3, o3 + k, none⟩) hb3).trans (hp3 k (by rw [HNL.out]; exact hlt))
    rw [Ns.ni_g hlt] at p3
    have hxv := HM.out _ (Ns.at_mem hlt)
    have hxe : pl.getD k 0 < (Ns.ends v).length := by rw [HEL.out]; exact hxv
    obtain ⟨b2, o2, rfl, hb2, hp2⟩ := HE3.out (by omega)
    have p2 := (HBk.out.cell (p := ⟨b2, o2 + pl.getD k 0, none⟩) hb2).trans (hp2 _ hxe)
    obtain ⟨bb, off, rfl, hbb, hp⟩ := HT.out (by omega)
    have HBW := Lib.hid (below_next HB3.out HBk.out)
    obtain ⟨q0, q1, q2⟩ := hp _ hxv
    replace q0 := (HBW.out.cell (p := ⟨bb, off + pl.getD k 0 * 3, none⟩) hbb).trans q0
    replace q1 := (HBW.out.cell (p := ⟨bb, off + pl.getD k 0 * 3 + 1, none⟩) hbb).trans q1
    replace q2 := (HBW.out.cell (p := ⟨bb, off + pl.getD k 0 * 3 + 2, none⟩) hbb).trans q2
    have HTK : Hid (pl.take (k + 1) = pl.take k ++ [pl.getD k 0]) := Lib.hid (by rw [List.take_add_one, List.getD_eq_getElem?_getD, List.getElem?_eq_getElem hlt]; rfl)
    have HMK := Lib.hid (Ns.at_mem hlt)
    have hkn : k < (Ns.ni pl).length := by rw [HNL.out]; exact hlt
    have hex := HER.out _ hxv
    clear hp3 hp2 hp
    generalize pl.getD k 0 = x at *
    by_cases hu : Ru.g (Ns.ends v) x = v.length
    ·have HV2 : Hid (rpt v = none) := Lib.hid (by rw [HV.out, if_neg (fun h => by have := h x HMK.out; omega)])
     rw [hu] at p2
     clear hex hu
     go_wp2_with fail
     go_ret2
     exact PrIs.bad HV2.out ⟨rfl, HBW.out⟩
    ·have HCN : Hid (∀ y ∈ pl.take (k + 1), Ru.g (Ns.ends v) y < v.length) := Lib.hid fun y hy => by
      rw [HTK.out] at hy
      rcases List.mem_append.1 hy with hy | hy
      ·exact HC.out y hy
      ·rw [List.mem_singleton.1 hy]
       rcases hex with h | h <;> omega
     have HGN : Hid (G ((pl.take (k + 1)).map fun x => (Tk.tk v x, arg v x)) = if (Tk.tk v x).1 = 1 then G ((pl.take k).map fun x => (Tk.tk v x, arg v x)) else G ((pl.take k).map fun x => (Tk.tk v x, arg v x)) ++ [(Tk.tk v x, arg v x)]) := Lib.hid (by rw [HTK.out, List.map_append]; exact G_snoc _ _)
     have hgl : (G ((pl.take k).map fun x => (Tk.tk v x, arg v x))).length <= 1000000 := by
      have h1 := G_len ((pl.take k).map fun x => (Tk.tk v x, arg v x))
      rw [List.length_map, List.length_take] at h1
      have := HL.out
      omega
     have HAR : Hid (Vl.arg v x = if Ru.g (Ns.ends v) x < 0 then [] else seg v (x + 1) (Ru.g (Ns.ends v) x).toNat) := Lib.hid rfl
     have hub : (Ru.g (Ns.ends v) x == (v.length : Int)) = false := beq_false_of_ne hu
     clear HC HTK HMK HER
     generalize Vl.arg v x = ar at *
     generalize G ((pl.take k).map fun x => (Tk.tk v x, Vl.arg v x)) = gs at *
     generalize hgen : Ru.g (Ns.ends v) x = ex at *
     generalize Tk.tk v x = u at *
     obtain ⟨kd, tx, num⟩ := u
     simp only at q0 q1 q2 hex HGN
     have hrange : -1 <= ex /\ ex <= (v.length : Int) := by rcases hex with h | h <;> omega
     have hrange : -1 <= ex /\ ex <= (v.length : Int) := by rcases hex with h | h <;> omega
     have hrange : -1 <= ex /\ ex <= (v.length : Int) := by rcases hex with h | h <;> omega
     have hrange : -1 <= ex /\ ex <= (v.length : Int) := by rcases hex with h | h <;> omega
     have hrange : -1 <= ex /\ ex <= (v.length : Int) := by rcases hex with h | h <;> omega
     have hrange : -1 <= ex /\ ex <= (v.length : Int) := by rcases hex with h | h <;> omega
     by_cases hneg : ex < 0
     ·have HA0 := HAR.out
      rw [if_pos hneg] at HA0
      subst HA0
      have dg : decide (0 <= ex) = false := decide_eq_false (by omega)
      clear HAR hex hneg hgen hu
      by_cases h1 : kd = 1
      ·rw [if_pos h1] at HGN
       have e1 : (kd != 1) = false := by simp [h1]
       clear h1
       go_upto_region 13 with fail
       have k4 := heap_alloc_new wr (prtO (kd, tx, num) none 0 0)
       have b4 := (Below.refl wr.heap.size wr).alloc (Nat.le_refl _) (prtO (kd, tx, num) none 0 0)
       generalize wr.alloc (prtO (kd, tx, num) none 0 0) = w4 at k4 b4 ⊢
       have HG4 := Lib.hid (Rl.Gr.next keeps_prt HG.out b4)
       replace p2 := (b4.cell (p := ⟨b2, o2 + x, none⟩) (Nat.lt_of_lt_of_le hb2 HBk.out.size)).trans p2
       replace q0 := (b4.cell (p := ⟨bb, off + x * 3, none⟩) (Nat.lt_of_lt_of_le hbb HBW.out.size)).trans q0
       obtain ⟨y0, y1, y2, y3⟩ : w4.cell? ⟨wr.heap.size, 0, none⟩ = some (.int .i64 kd) /\ w4.cell? ⟨wr.heap.size, 1, none⟩ = some (.string tx) /\ w4.cell? ⟨wr.heap.size, 2, none⟩ = some (.int .i64 num) /\ w4.cell? ⟨wr.heap.size, 3, none⟩ = some (.slice none 0 0) := four_cells k4
       have z3 : w4.frozen? ⟨wr.heap.size, 3, none⟩ = false := by simp [World.frozen?, k4]
       clear k4 b4 q1 q2 p3
       go_wp2_with fail
       go_roundw
       case rel => exact ⟨k + 1, by omega, by go_num, HCN, by rw [HGN.out]; exact HG4⟩
       case measure => simp [RowKit.intOf]; omega
      ·rw [if_neg h1] at HGN
       have e1 : (kd != 1) = true := bne_iff_ne.2 h1
       clear h1
       go_upto_region 13 with fail
       have k4 := heap_alloc_new wr (prtO (kd, tx, num) none 0 0)
       have b4 := (Below.refl wr.heap.size wr).alloc (Nat.le_refl _) (prtO (kd, tx, num) none 0 0)
       generalize wr.alloc (prtO (kd, tx, num) none 0 0) = w4 at k4 b4 ⊢
       have HG4 := Lib.hid (Rl.Gr.next keeps_prt HG.out b4)
       replace p2 := (b4.cell (p := ⟨b2, o2 + x, none⟩) (Nat.lt_of_lt_of_le hb2 HBk.out.size)).trans p2
       replace q0 := (b4.cell (p := ⟨bb, off + x * 3, none⟩) (Nat.lt_of_lt_of_le hbb HBW.out.size)).trans q0
       obtain ⟨y0, y1, y2, y3⟩ : w4.cell? ⟨wr.heap.size, 0, none⟩ = some (.int .i64 kd) /\ w4.cell? ⟨wr.heap.size, 1, none⟩ = some (.string tx) /\ w4.cell? ⟨wr.heap.size, 2, none⟩ = some (.int .i64 num) /\ w4.cell? ⟨wr.heap.size, 3, none⟩ = some (.slice none 0 0) := four_cells k4
       have z3 : w4.frozen? ⟨wr.heap.size, 3, none⟩ = false := by simp [World.frozen?, k4]
       clear k4 b4 q1 q2 p3
       go_wp2_with (at_builtin; refine app_prt rfl _ _ rfl rfl HG4.out ((kd, tx, num), []) none 0 0 rfl ⟨Nat.le_refl _, fun h0 => absurd h0 (by simp)⟩ _ _ rfl hgl ?_; intro v' w6 H6; have HG6 := Lib.hid H6; clear H6)
       go_roundw
       case rel => exact ⟨k + 1, by omega, by go_num, HCN, by rw [HGN.out]; exact HG6⟩
       case measure => simp [RowKit.intOf]; omega
     ·have HA0 := HAR.out
      rw [if_neg hneg] at HA0
      obtain ⟨e, rfl⟩ : ∃ e : Nat, ex = (e : Int) := ⟨ex.toNat, by omega⟩
      rw [Int.toNat_natCast] at HA0
      have hkd : kd ≠ 1 := fun h => by
       rcases hex with h2 | h2
       ·omega
       ·exact isO_1 h2.1 h
      have hxe2 : x < e := by rcases hex with h | h <;> omega
      have hel2 : e < v.length := by omega
      rw [if_neg hkd] at HGN
      have e1 : (kd != 1) = true := bne_iff_ne.2 hkd
      have HLN : Hid (e - (x + 1) = ar.length) := Lib.hid (by rw [HA0, seg_len (by omega)])
      have HTA : Hid (Ts w w.heap.size (some ⟨bb, off + (x + 1) * 3, none⟩) ar) := Lib.hid (by rw [HA0]; exact seg_ts HT.out (by omega))
      have dg : decide (0 <= (e : Int)) = true := decide_eq_true (by omega)
      clear HAR hex hneg hgen hu hkd HA0
      go_upto_region 13 with fail
      have k4 := heap_alloc_new wr (prtO (kd, tx, num) none 0 0)
      have b4 := (Below.refl wr.heap.size wr).alloc (Nat.le_refl _) (prtO (kd, tx, num) none 0 0)
      generalize wr.alloc (prtO (kd, tx, num) none 0 0) = w4 at k4 b4 ⊢
      have HG4 := Lib.hid (Rl.Gr.next keeps_prt HG.out b4)
      replace p2 := (b4.cell (p := ⟨b2, o2 + x, none⟩) (Nat.lt_of_lt_of_le hb2 HBk.out.size)).trans p2
      have q00 := q0
      replace q0 := (b4.cell (p := ⟨bb, off + x * 3, none⟩) (Nat.lt_of_lt_of_le hbb HBW.out.size)).trans q0
      obtain ⟨y0, y1, y2, y3⟩ : w4.cell? ⟨wr.heap.size, 0, none⟩ = some (.int .i64 kd) /\ w4.cell? ⟨wr.heap.size, 1, none⟩ = some (.string tx) /\ w4.cell? ⟨wr.heap.size, 2, none⟩ = some (.int .i64 num) /\ w4.cell? ⟨wr.heap.size, 3, none⟩ = some (.slice none 0 0) := four_cells k4
      have z3 : w4.frozen? ⟨wr.heap.size, 3, none⟩ = false := by simp [World.frozen?, k4]
      clear q1 q2 p3
      go_upto_region 15 with fail
      have k5 := set_last k4 (.slice (some ⟨bb, off + (x + 1) * 3, none⟩) (e - (x + 1)) (cap - (x + 1)))
      have b5 := b4.setCell (Nat.le_refl _) (p := ⟨wr.heap.size, 3, none⟩) (.slice (some ⟨bb, off + (x + 1) * 3, none⟩) (e - (x + 1)) (cap - (x + 1)))
      replace q0 := (b5.cell (p := ⟨bb, off + x * 3, none⟩) (Nat.lt_of_lt_of_le hbb HBW.out.size)).trans q00
      generalize w4.setCell ⟨wr.heap.size, 3, none⟩ (.slice (some ⟨bb, off + (x + 1) * 3, none⟩) (e - (x + 1)) (cap - (x + 1))) = w5 at k5 b5 q0 ⊢
      have HG5 := Lib.hid (Rl.Gr.next keeps_prt HG.out b5)
      obtain ⟨x0, x1, x2, x3⟩ := four_cells k5
      have hac : ar.length <= cap - (x + 1) := by have := HLN.out; omega
      clear k4 b4 k5 b5 q00 p2 y0 y1 y2 y3 z3
      go_wp2_with (at_builtin; refine app_prt rfl _ _ rfl rfl HG5.out ((kd, tx, num), ar) (some ⟨bb, off + (x + 1) * 3, none⟩) (e - (x + 1)) (cap - (x + 1)) HLN.out ⟨hac, HTA.out⟩ _ _ rfl hgl ?_; intro v' w6 H6; have HG6 := Lib.hid H6; clear H6)
      go_roundw
      case rel => exact ⟨k + 1, by omega, by go_num, HCN, by rw [HGN.out]; exact HG6⟩
      case measure => simp [RowKit.intOf]; omega
   ·obtain rfl : k = pl.length := by omega
    have hlt2 : ¬ pl.length < (Ns.ni pl).length := by rw [HNL.out]; omega
    have HV2 : Hid (rpt v = some (G (pl.map fun x => (Tk.tk v x, arg v x)))) := Lib.hid (by
     have h := HC.out
     rw [List.take_length] at h
     rw [HV.out, if_pos h])
    have HG2 := Lib.hid HG.out
    rw [List.take_length] at HG2
    clear hlt HG HC HV
    go_wp2_with fail
    go_ret2
    obtain ⟨A9, c9, rfl, hc9, hC9, _⟩ := HG2.out.form
    exact PrIs.ok HV2.out ⟨A9, c9, rfl, hc9, hC9, below_next HB3.out HG2.out.bel⟩
end Go.Proofs.Ytaofkaehhikfaaa
namespace Go.Proofs.Ytaofkaehhikfaaa
open Go.RowKit Vl
theorem pairR {w : World} {b o : Nat} {x y : Int} (h0 : w.cell? ⟨b, o, none⟩ = some (.int .i64 x)) (h1 : w.cell? ⟨b, o + 1, none⟩ = some (.int .i64 y)) : w.rangeAt b o [.int .i64 x, .int .i64 y] := fun j v hj => by
 match j, hj with
 | 0, hj => simp only [List.getElem?_cons_zero, Option.some.injEq] at hj; subst hj; exact h0
 | 1, hj => simp only [List.getElem?_cons_succ, List.getElem?_cons_zero, Option.some.injEq] at hj; subst hj; exact h1
 | j + 2, hj => simp at hj
theorem pairS (x y : Int) : (Try.prog.info? 83).map (·.size) = some [Value.int .i64 x, .int .i64 y].length := by kernel_rfl
theorem sz_next (w : World) (o : Obj) : w.heap.size + 1 = (w.alloc o).heap.size := by simp
theorem flatG : ∀ {ps : List (Nat × Nat)} {i : Nat} (h : i < ps.length), Ru.g (Ns.flat ps) (i * 2) = ((ps[i]).1 : Int) /\ Ru.g (Ns.flat ps) (i * 2 + 1) = ((ps[i]).2 : Int)
 | [], i, h => by simp at h
 | q :: ps, 0, _ => ⟨rfl, rfl⟩
 | q :: ps, i + 1, h => by
   have ih := flatG (ps := ps) (i := i) (by simpa using h)
   have e : Ns.flat (q :: ps) = (q.1 : Int) :: (q.2 : Int) :: Ns.flat ps := rfl
   unfold Ru.g at ih ⊢
   rw [e, show (i + 1) * 2 = i * 2 + 1 + 1 by omega]
   simpa [List.getD_eq_getElem?_getD] using ih
theorem app_tkc {ops : Array Oper} {rest : List Oper} {o : Oper} {a : Act} {Q : Exit -> Act -> World -> Prop} {w0 wr : World} {v : Value} {us : List Tk.Tok} (hgd : o.guard = none) (s x : Operand)
 (ho : o.op = .call { callee := .builtin .append, args := #[s, x], argTypes := #[22, 22] }) (hs : a.eval s = v) (H : Ow 36 3 w0 v us.length (Tk.cells us) wr) (k n : Int) (t : ByteArray) (c : Nat) (E' : TypeId)
 {m : Nat} (hms : m = wr.heap.size) (hx : a.eval x = .slice (some ⟨m, 0, none⟩) 1 c) (hm : us.length <= 1000000)
 (h : ∀ v' w3, Ow 36 3 w0 v' (us ++ [(k, t, n)]).length (Tk.cells (us ++ [(k, t, n)])) w3 -> wpList Try.prog ops Q rest (a.put o.dst v') w3) : wpList Try.prog ops Q (o :: rest) a (wr.alloc (.cells #[.int .i64 k, .string t, .int .i64 n] E')) := by
 subst hms
 obtain ⟨i0, hi, hz0, hz1, hz2⟩ := info_parts Try.infoTok
 refine app_own hgd s x 22 ho i0 zTok 32 Try.underlying22 hi hz0 hz1 hz2 rfl (by decide) hs H [.int .i64 k, .string t, .int .i64 n] c E' _ rfl hx rfl (three_ok _ _ _) (by unfold maxLen; omega) (by omega) (fun v' w3 H3 => ?_)
 refine h v' w3 ?_
 rw [List.length_append, Tk.cells_app]
 exact H3
def AgYes (l : List Tk.Tok) (w : World) (e : Ending) (w' : World) : Prop := ∃ (A : Option Addr) (c : Nat), e = .returned (.tuple #[.slice A l.length c, .bool true]) /\ l.length <= c /\ Ts w' w'.heap.size A l /\ Below w.heap.size w w'
def AgIs (o : Option (List Tk.Tok)) (w : World) (e : Ending) (w' : World) : Prop := (∀ l, o = some l -> AgYes l w e w') /\ (o = none -> NoPr w e w')
theorem plc_pieces {p : Nat -> Bool} {z m : Nat} : ∀ (l : List Nat) (b : Nat), (∀ x ∈ l, x < m) -> b <= m -> z <= m -> ∀ q ∈ Ns.spl p z l b, q.1 <= m /\ q.2 <= m
 | [], b, _, hb, hz, q, hq => by
   rw [spl_nil, List.mem_singleton] at hq
   subst hq
   exact ⟨hb, hz⟩
 | a :: r, b, h, hb, hz, q, hq => by
   have ha := h a (by simp)
   by_cases hp : p a = true /\ b <= a
   ·rw [spl_yes hp] at hq
    rcases List.mem_cons.1 hq with rfl | hq
    ·exact ⟨hb, by omega⟩
    ·exact plc_pieces r (a + 1) (fun x hx => h x (List.mem_cons_of_mem _ hx)) (by omega) hz q hq
   ·rw [spl_no hp] at hq
    exact plc_pieces r b (fun x hx => h x (List.mem_cons_of_mem _ hx)) hb hz q hq
theorem spl_count {p : Nat -> Bool} {z : Nat} : ∀ (l : List Nat) (b : Nat), (Ns.spl p z l b).length <= l.length + 1
 | [], b => by rw [spl_nil]; simp
 | a :: r, b => by
   by_cases hp : p a = true /\ b <= a
   ·have := spl_count (p := p) (z := z) r (a + 1)
    rw [spl_yes hp]; simp only [List.length_cons]; omega
   ·have := spl_count (p := p) (z := z) r b
    rw [spl_no hp]; simp only [List.length_cons]; omega
theorem carguments_any (L : List Tk.Tok) (hm : L.length <= 1000) (A C : Option Addr) (c d : Nat) (x e : Nat) (hx : x < L.length) (hO : Ns.isO (Tk.tk L x)) (he : Ru.g (Ns.ends L) x = (e : Int)) (hlt : e < L.length) (w : World) (h : Vt w L A C c d) :
 Calls Try.prog 56 #[vtV A C L.length c d, .int .i64 x] w (AgIs (args (arg L x)) w) := by
 obtain ⟨W0, hW, hb0, k0, hlt0⟩ := vt_boxed w A C L.length c d
 obtain ⟨p0, p1⟩ := two_cells k0
 have hxe := (end_is hO hx he hlt).1
 have hel := Ns.ends_len L
 have HV0 := Lib.hid (h.next hb0)
 obtain ⟨b2, off2, rfl, hb2, hp2⟩ := h.es (by omega)
 have z0 := hp2 x (by omega)
 rw [he] at z0
 replace z0 := (hb0.cell (p := ⟨b2, off2 + x, none⟩) hb2).trans z0
 have HB0 := Lib.hid hb0
 have HW := Lib.hid hW
 have hwr : IntKind.i64.wrap ((x : Int) + 1) = (x : Int) + 1 := IntWalk.i64_in _ (by omega)
 clear hb0 hW h hp2
 by_cases h1 : x + 1 = e
 ·have HA : Hid (args (arg L x) = some []) := Lib.hid (by
   unfold arg
   rw [if_neg (by omega), he, Int.toNat_natCast, seg_end (by omega)]; rfl)
  rw [HA.out]
  have e1 : ((x : Int) + 1 == (e : Int)) = true := beq_iff_eq.2 (by omega)
  clear HA h1 hO he k0
  go_enter Try.func56, Try.ntmps56
  go_upto_region 1 with fail
  rw [HW.out]
  clear HW
  go_quiet (fail)
  go_wp2_with fail
  go_ret2
  exact ⟨fun l hl => (by cases hl; exact ⟨none, 0, rfl, Nat.le_refl _, fun h => by simp at h, below_drewN HB0.out _⟩), fun h => by cases h⟩
 ·have hxe2 : x + 1 < e := by omega
  have HA := Lib.hid (args_spl hO hx he hlt hxe2)
  have e1 : ((x : Int) + 1 == (e : Int)) = false := beq_false_of_ne (by omega)
  have hmem : ∀ y ∈ Ns.plc (Ns.ends L) e (x + 1), y < L.length := fun y hy => by have := (Ns.plc_mem _ (Nat.le_refl _) hy).2; omega
  have HPC : Hid (∀ q ∈ Ns.spl (isC L) e (Ns.plc (Ns.ends L) e (x + 1)) (x + 1), q.1 <= L.length /\ q.2 <= L.length) := Lib.hid (plc_pieces _ _ hmem (by omega) (by omega))
  have HCT : Hid ((Ns.spl (isC L) e (Ns.plc (Ns.ends L) e (x + 1)) (x + 1)).length <= 1001) := Lib.hid (by
   have h1 := spl_count (p := isC L) (z := e) (Ns.plc (Ns.ends L) e (x + 1)) (x + 1)
   have h2 := Ns.plc_len (es := Ns.ends L) (tz := e) (e - (x + 1)) (x + 1) (Nat.le_refl _)
   omega)
  have CS : Hid (∀ W, Below W0.heap.size W0 W -> Calls Try.prog 45 #[.slice A L.length c, .slice (some ⟨b2, off2, none⟩) L.length d, .int .i64 ((x : Int) + 1), .int .i64 e, .int .i64 16] W (ToldP (Ns.spl (isC L) e (Ns.plc (Ns.ends L) e (x + 1)) (x + 1)) W)) := Lib.hid fun W hb => by
   have hV := HV0.out.next hb
   have hs := splitC L (by omega) A (some ⟨b2, off2, none⟩) c d hV.hc (by rw [hel]; exact hV.hd) ((x : Int) + 1) e 16 (by unfold I64; omega) (by unfold I64; omega) W hV.ts hV.es
   rw [hel] at hs
   have e2 : Ns.splR L ((x : Int) + 1) e 16 = Ns.spl (isC L) e (Ns.plc (Ns.ends L) e (x + 1)) (x + 1) := by
    unfold Ns.splR
    rw [if_pos ⟨by omega, by omega, by omega⟩]
    have : ((x : Int) + 1).toNat = x + 1 := by omega
    rw [this, Int.toNat_natCast]; rfl
   rw [e2] at hs
   exact hs
  have HK0 := Lib.hid k0
  clear h1 hO he hmem k0 hel
  generalize Ns.spl (isC L) e (Ns.plc (Ns.ends L) e (x + 1)) (x + 1) = ps at *
  generalize args (arg L x) = res at *
  go_enter Try.func56, Try.ntmps56
  go_upto_region 1 with fail
  rw [HW.out]
  clear HW
  go_quiet (fail)
  go_wp2_with (go_at_call 45; ((with_reducible refine (CS.out _ (below_drewN (Below.refl _ _) _)).mono ?_); rintro e1 w4 ⟨A4, c4, rfl, hc4, B4, b4⟩; have HB4 := Lib.hid ((below_drewN HB0.out _).trans (b4.mono (by simpa using HB0.out.size))); have HS4 := Lib.hid B4; have HV4 := Lib.hid ((HV0.out.next (below_drewN (Below.refl _ _) _)).next b4); have k4 := below_block b4 (w := W0.drewN _) (by exact HK0.out); obtain ⟨y0, y1⟩ := two_cells k4; have HK4 := Lib.hid k4; clear b4 B4 k4))
  have hn := HCT.out
  go_loopw [8, 29] (fun v8 v29 wr => ∃ k : Nat, k <= ps.length /\ v29 = .int .i64 k /\ Hid (∀ q ∈ ps.take k, q.2 = q.1 + 1) /\ Hid (Ow 36 3 w4 v8 ((ps.take k).map (fun q => Tk.tk L q.1)).length (Tk.cells ((ps.take k).map (fun q => Tk.tk L q.1))) wr)) (fun _ v29 _ => ps.length - (RowKit.intOf v29).toNat)
  case atStart => exact ⟨0, Nat.zero_le _, rfl, Lib.hid (by simp), Lib.hid (Ow.start _ 3 (Below.refl _ _))⟩
  case round =>
   obtain ⟨k, hk, rfl, HQ, HO⟩ := hrel
   have hbr := HO.out.bel
   by_cases hlt : k < ps.length
   ·have HP := HPC.out _ (List.getElem_mem hlt)
    have HTK : Hid (ps.take (k + 1) = ps.take k ++ [ps[k]]) := Lib.hid (List.take_succ_eq_append_getElem hlt)
    have hbq := hbr.mono (Nat.le_refl _)
    have kr := below_block hbr HK4.out
    obtain ⟨z0, z1⟩ := two_cells kr
    have hlr : w.heap.size < wr.heap.size := (Array.getElem?_eq_some_iff.1 kr).1
    obtain ⟨b4, o4, rfl, hb4, hp4⟩ := (HS4.out.next hbr) (by rw [Ns.flat_len]; omega)
    have hfl := flatG hlt
    have p0 := hp4 (k * 2) (by rw [Ns.flat_len]; omega)
    have p1 := hp4 (k * 2 + 1) (by rw [Ns.flat_len]; omega)
    rw [hfl.1] at p0
    rw [hfl.2] at p1
    have HLD := Lib.hid (pairR p0 (by rw [Nat.add_assoc]; exact p1))
    have HM := Lib.hid (List.getElem_mem hlt)
    clear hp4 hfl
    have HV := Lib.hid (HV4.out.next hbr)
    generalize ps[k] = q at *
    obtain ⟨q1, q2⟩ := q
    simp only at p0 p1 HLD HP
    have hws : IntKind.i64.wrap ((q2 : Int) - (q1 : Int)) = (q2 : Int) - (q1 : Int) := IntWalk.i64_in _ (by omega)
    have hwk : IntKind.i64.wrap ((k : Int) + 1) = (k : Int) + 1 := IntWalk.i64_in _ (by omega)
    by_cases hq : q2 = q1 + 1
    ·have hne : ((q2 : Int) - (q1 : Int) != 1) = false := by simp; omega
     obtain ⟨bt, ot, hAe, hbt, hct⟩ := HV.out.ts (by omega)
     subst hAe
     obtain ⟨c0, c1, c2⟩ := hct q1 (by omega)
     have HG : Hid ((ps.take (k + 1)).map (fun q => Tk.tk L q.1) = (ps.take k).map (fun q => Tk.tk L q.1) ++ [Tk.tk L q1]) := Lib.hid (by rw [HTK.out]; simp)
     have HQ2 : Hid (∀ q ∈ ps.take (k + 1), q.2 = q.1 + 1) := Lib.hid (by rw [HTK.out]; intro q hq'; rcases List.mem_append.1 hq' with h | h; exact HQ.out q h; rw [List.mem_singleton] at h; subst h; exact hq)
     have hq1 : q1 < L.length := by omega
     have hLc := HV.out.hc
     have hlen : ((ps.take k).map (fun q => Tk.tk L q.1)).length <= 1000000 := by simp; omega
     clear hct HTK HQ HV hq
     generalize Tk.tk L q1 = u at *
     obtain ⟨kd, tx, num⟩ := u
     go_wp2_with (first | (with_reducible refine wpList_load_mid rfl 83 (.tmp 31) rfl b4 (o4 + k * 2) rfl _ _ HLD.out Try.underlying83 rfl (pairS _ _) ?_) | (at_builtin; refine app_tkc rfl _ _ rfl rfl (HO.out.alloc _) _ _ _ _ _ (sz_next _ _) rfl hlen ?_; intro v' w3 H3; have HO3 := Lib.hid H3; clear H3))
     go_roundw
     case rel => exact ⟨k + 1, by omega, by go_num, HQ2, by rw [HG.out]; exact HO3⟩
     case measure => simp [RowKit.intOf]; omega
    ·have hne : ((q2 : Int) - (q1 : Int) != 1) = true := by simp; omega
     have HN : Hid (res = none) := Lib.hid (by rw [HA.out, if_neg (fun h => hq (h _ HM.out))])
     clear hq HA HTK HQ
     go_wp2_with (with_reducible refine wpList_load_mid rfl 83 (.tmp 31) rfl b4 (o4 + k * 2) rfl _ _ HLD.out Try.underlying83 rfl (pairS _ _) ?_)
     go_ret2
     exact ⟨fun l hl => (by rw [HN.out] at hl; cases hl), fun _ => ⟨rfl, (below_next (below_next HB4.out hbr) ((Below.refl _ _).alloc (Nat.le_refl _) _)).mono (Nat.le_refl _)⟩⟩
   ·obtain rfl : k = ps.length := by omega
    have HQ2 := HQ.out
    rw [List.take_length] at HQ2
    have HN : Hid (res = some (ps.map (fun q => Tk.tk L q.1))) := Lib.hid (by rw [HA.out, if_pos HQ2])
    rw [List.take_length] at HO
    go_wp2_with fail
    go_ret2
    obtain ⟨A5, c5, rfl, hc5⟩ := HO.out.form
    refine ⟨fun l hl => ?_, fun h => (by rw [HN.out] at h; cases h)⟩
    rw [HN.out] at hl
    injection hl with hl
    subst hl
    exact ⟨A5, c5, rfl, hc5, Ts.of_own HO.out.own, below_next HB4.out hbr⟩
end Go.Proofs.Ytaofkaehhikfaaa
namespace Go.Proofs.Ytaofkaehhikfaaa
open Go.RowKit Vl
namespace Vl
def evs : List Tk.Tok -> List Tk.Tok
 | [] => []
 | [x] => [x]
 | x :: _ :: r => x :: evs r
def okA (l : List Tk.Tok) : Prop := l.length % 2 = 1 /\ ∀ i, i < l.length -> ((Tk.tk l i).1 = 16 ↔ i % 2 = 1)
theorem rgs_ev : ∀ (n : Nat) (l : List Tk.Tok), l.length <= n -> (okA l -> rgs l = some (evs l)) /\ (¬ okA l -> rgs l = none)
 | _, [], _ => ⟨fun h => by have := h.1; simp at this, fun _ => rfl⟩
 | 0, t :: l, hn => by simp at hn
 | n + 1, [x], _ => by
   rw [rgs]
   by_cases h : x.1 = 16
   ·rw [if_pos h]
    exact ⟨fun hk => by have := (hk.2 0 (by simp)).1 h; simp at this, fun _ => rfl⟩
   ·rw [if_neg h]
    exact ⟨fun _ => rfl, fun hk => absurd ⟨rfl, fun i hi => by
     obtain rfl : i = 0 := by simpa using hi
     exact ⟨fun c => absurd c h, fun c => by simp at c⟩⟩ hk⟩
 | n + 1, x :: c :: r, hn => by
   have ih := rgs_ev n r (by simp at hn; omega)
   rw [rgs]
   by_cases h : x.1 = 16 ∨ c.1 ≠ 16
   ·rw [if_pos h]
    refine ⟨fun hk => ?_, fun _ => rfl⟩
    exfalso
    have h0 := hk.2 0 (by simp)
    have h1 := hk.2 1 (by simp)
    rcases h with h | h
    ·have := h0.1 h; simp at this
    ·exact h (h1.2 rfl)
   ·rw [if_neg h]
    have h' : x.1 ≠ 16 /\ c.1 = 16 := ⟨fun e => h (.inl e), Decidable.of_not_not fun e => h (.inr e)⟩
    have e : okA (x :: c :: r) ↔ okA r := by
     constructor
     ·intro hk
      refine ⟨by have := hk.1; simp at this; omega, fun i hi => ?_⟩
      have := hk.2 (i + 2) (by simp; omega)
      have e2 : Tk.tk (x :: c :: r) (i + 2) = Tk.tk r i := rfl
      rw [e2] at this
      rw [this]; omega
     ·intro hk
      refine ⟨by have := hk.1; simp; omega, fun i hi => ?_⟩
      match i, hi with
      | 0, _ => exact ⟨fun c => absurd c h'.1, fun c => by simp at c⟩
      | 1, _ => exact ⟨fun _ => rfl, fun _ => h'.2⟩
      | i + 2, hi =>
        have := hk.2 i (by simp at hi; omega)
        have e2 : Tk.tk (x :: c :: r) (i + 2) = Tk.tk r i := rfl
        rw [e2, this]; omega
    rw [e]
    exact ⟨fun hk => by rw [ih.1 hk]; rfl, fun hk => by rw [ih.2 hk]; rfl⟩
theorem evs_snoc : ∀ (n : Nat) (l : List Tk.Tok) (a : Tk.Tok), l.length <= n -> evs (l ++ [a]) = if l.length % 2 = 0 then evs l ++ [a] else evs l
 | _, [], a, _ => rfl
 | 0, t :: l, a, hn => by simp at hn
 | n + 1, [x], a, _ => by rw [if_neg (by simp)]; rfl
 | n + 1, x :: c :: r, a, hn => by
   have ih := evs_snoc n r a (by simp at hn; omega)
   show x :: evs (r ++ [a]) = _
   rw [ih]
   have e : (x :: c :: r).length % 2 = r.length % 2 := by simp only [List.length_cons]; omega
   rw [e]
   split <;> rfl
theorem evs_len : ∀ (n : Nat) (l : List Tk.Tok), l.length <= n -> (evs l).length <= l.length
 | _, [], _ => by simp [evs]
 | 0, t :: l, hn => by simp at hn
 | n + 1, [x], _ => by simp [evs]
 | n + 1, x :: c :: r, hn => by
   have := evs_len n r (by simp at hn; omega)
   simp [evs]; omega
theorem fs_tk {P : List Prt} {i : Nat} (h : i < P.length) : Tk.tk (fs P) i = P[i].1 := by
 rw [Tk.tk_eq (by unfold fs; simpa using h)]
 unfold fs
 simp
theorem fs_len (P : List Prt) : (fs P).length = P.length := by unfold fs; simp
def TkP (_ : World) (t : Tk.Tok) (cs : List Value) : Prop := ∃ (A : Option Addr) (n cap : Nat), cs = [.int .i64 t.1, .string t.2.1, .int .i64 t.2.2, .slice A n cap]
theorem kT_tkp {E : TypeId} : Rl.KeepsT E TkP := fun _ _ _ _ _ h _ => h
theorem keeps_tkp : Rl.Keeps TkP := fun _ _ _ _ h _ => h
abbrev GrT (w0 : World) (v : Value) (ts : List Tk.Tok) (wr : World) : Prop := Rl.Gr 71 4 TkP w0 v ts wr
theorem app_tkp {ops : Array Oper} {rest : List Oper} {o : Oper} {a : Act} {Q : Exit -> Act -> World -> Prop} {w0 wr : World} {v : Value} {ts : List Tk.Tok} (hgd : o.guard = none) (s x : Operand)
 (ho : o.op = .call { callee := .builtin .append, args := #[s, x], argTypes := #[66, 66] }) (hs : a.eval s = v) (H : GrT w0 v ts wr) (t : Tk.Tok) (A : Option Addr) (n cap : Nat) (c : Nat) (E' : TypeId)
 (hx : a.eval x = .slice (some ⟨wr.heap.size, 0, none⟩) 1 c) (hm : ts.length <= 1000000)
 (h : ∀ v' w3, GrT w0 v' (ts ++ [t]) w3 -> wpList Try.prog ops Q rest (a.put o.dst v') w3) :
 wpList Try.prog ops Q (o :: rest) a (wr.alloc (.cells #[.int .i64 t.1, .string t.2.1, .int .i64 t.2.2, .slice A n cap] E')) := by
 obtain ⟨i0, hi, hz0, hz1, hz2⟩ := info_parts Try.infoPrt
 exact Rl.Gr.app (E := 71) kT_tkp hgd s x 66 ho i0 _ 56 Try.underlying66 hi hz0 hz1 hz2 rfl (by decide) hs H t [.int .i64 t.1, .string t.2.1, .int .i64 t.2.2, .slice A n cap] ⟨A, n, cap, rfl⟩ c E' hx rfl (by simp [Value.oneCell']) (by unfold maxLen; omega) (by omega) (fun v' w3 h1 _ _ => h v' w3 h1)
def ToldTk (ts : List Tk.Tok) (w : World) (e : Ending) (w' : World) : Prop :=
 ∃ (A : Option Addr) (cap : Nat), e = .returned (.tuple #[.slice A ts.length cap, .bool true]) /\ ts.length <= cap /\ Rl.Cells 4 TkP w' A ts /\ Below w.heap.size w w'
def TkIs (o : Option (List Tk.Tok)) (w : World) (e : Ending) (w' : World) : Prop := (∀ ts, o = some ts -> ToldTk ts w e w') /\ (o = none -> NoPr w e w')
theorem TkIs.bad {o : Option (List Tk.Tok)} {w : World} {e : Ending} {w' : World} (ho : o = none) (h : NoPr w e w') : TkIs o w e w' := ⟨fun _ hp => by (rw [ho] at hp; cases hp), fun _ => h⟩
theorem TkIs.ok {o : Option (List Tk.Tok)} {ps : List Tk.Tok} {w : World} {e : Ending} {w' : World} (ho : o = some ps) (h : ToldTk ps w e w') : TkIs o w e w' := ⟨fun _ hp => by (rw [ho] at hp; injection hp with hp; subst hp; exact h), fun hp => by (rw [ho] at hp; cases hp)⟩
theorem prt_at {w w' : World} {A : Option Addr} {P : List Prt} (h : Rl.Cells 4 (PrtQ w) w' A P) {i : Nat} (hi : i < P.length) :
 ∃ b off A' cap, A = some ⟨b, off, none⟩ /\ b < w'.heap.size /\ P[i].2.length <= cap /\ Ts w w.heap.size A' P[i].2 /\ w'.cell? ⟨b, off + i * 4, none⟩ = some (.int .i64 (Tk.tk (fs P) i).1) /\ w'.cell? ⟨b, off + i * 4 + 1, none⟩ = some (.string (Tk.tk (fs P) i).2.1) /\
   w'.cell? ⟨b, off + i * 4 + 2, none⟩ = some (.int .i64 (Tk.tk (fs P) i).2.2) /\ w'.cell? ⟨b, off + i * 4 + 3, none⟩ = some (.slice A' P[i].2.length cap) := by
 obtain ⟨b, off, e, hb, hc⟩ := h (by omega)
 obtain ⟨cs, _, ⟨A', cap, rfl, h1, h2⟩, h3⟩ := hc i hi
 rw [fs_tk hi]
 exact ⟨b, off, A', cap, e, hb, h1, h2, h3 0 _ rfl, h3 1 _ rfl, h3 2 _ rfl, h3 3 _ rfl⟩
theorem tkp_at {w' : World} {A : Option Addr} {ts : List Tk.Tok} (h : Rl.Cells 4 TkP w' A ts) {i : Nat} (hi : i < ts.length) :
 ∃ b off A' n cap, A = some ⟨b, off, none⟩ /\ b < w'.heap.size /\ w'.cell? ⟨b, off + i * 4, none⟩ = some (.int .i64 (Tk.tk ts i).1) /\ w'.cell? ⟨b, off + i * 4 + 1, none⟩ = some (.string (Tk.tk ts i).2.1) /\
   w'.cell? ⟨b, off + i * 4 + 2, none⟩ = some (.int .i64 (Tk.tk ts i).2.2) /\ w'.cell? ⟨b, off + i * 4 + 3, none⟩ = some (.slice A' n cap) := by
 obtain ⟨b, off, e, hb, hc⟩ := h (by omega)
 obtain ⟨cs, _, ⟨A', n, cap, rfl⟩, h3⟩ := hc i hi
 rw [Tk.tk_eq hi]
 exact ⟨b, off, A', n, cap, e, hb, h3 0 _ rfl, h3 1 _ rfl, h3 2 _ rfl, h3 3 _ rfl⟩
end Vl
theorem vargs_any (t : Tk.Tok) (m : List Tk.Tok) (hm : m.length <= 1000) (A : Option Addr) (cap : Nat) (hcap : m.length <= cap) (w : World) (h : Ts w w.heap.size A m) :
 Calls Try.prog 89 #[prtV t A m.length cap] w (TkIs ((rpt m).bind fun P => rgs (fs P)) w) := by
 obtain ⟨W0, hW, hb0, k0, hlt0⟩ := boxed w t A m.length cap
 obtain ⟨p0, p1, p2, p3⟩ := four_cells k0
 have HB0 := Lib.hid hb0
 have HW := Lib.hid hW
 have CP : Hid (Calls Try.prog 38 #[.slice A m.length cap] W0 (PrIs (rpt m) W0)) := Lib.hid (vparts_any m hm A cap hcap W0 (h.next hb0))
 clear hb0 k0 hW h
 cases hr : rpt m with
 | none =>
   have CP2 : Hid (Calls Try.prog 38 #[.slice A m.length cap] W0 (NoPr W0)) := Lib.hid (CP.out.mono fun e w' h => h.2 hr)
   clear CP hr
   go_enter Try.func89, Try.ntmps89
   go_upto_region 1 with fail
   rw [HW.out]
   clear HW
   go_wp2_with (go_at_call 38; ((with_reducible refine (CP2.out).mono ?_); rintro e w1 ⟨rfl, b1⟩; have HB1 := Lib.hid (below_next HB0.out b1); clear b1))
   go_ret2
   exact TkIs.bad rfl ⟨rfl, HB1.out⟩
 | some P =>
   have CP2 : Hid (Calls Try.prog 38 #[.slice A m.length cap] W0 (ToldPr P W0)) := Lib.hid (CP.out.mono fun e w' h => h.1 P hr)
   have hPl : P.length <= 1000 := by
    unfold rpt at hr
    split at hr
    ·cases hr
    ·rw [parts_all] at hr
     split at hr
     ·simp only [Option.map_some, Option.some.injEq] at hr
      have h1 := G_len ((Ns.plc (Ns.ends m) m.length 0).map fun x => (Tk.tk m x, arg m x))
      rw [hr, List.length_map] at h1
      have h2 := Ns.plc_len (es := Ns.ends m) (tz := m.length) m.length 0 (by omega)
      omega
     ·cases hr
   have HR : Hid ((okA (fs P) -> rgs (fs P) = some (evs (fs P))) /\ (¬ okA (fs P) -> rgs (fs P) = none)) := Lib.hid (rgs_ev _ _ (Nat.le_refl _))
   have HFL := Lib.hid (fs_len P)
   clear CP hr
   show Calls Try.prog 89 #[prtV t A m.length cap] w (TkIs (rgs (fs P)) w)
   by_cases hodd : P.length % 2 = 1
   ·have hoddi : ((P.length : Int) % 2 == 0) = false := beq_false_of_ne (by omega)
    go_enter Try.func89, Try.ntmps89
    go_upto_region 1 with fail
    rw [HW.out]
    clear HW
    go_wp2_with (go_at_call 38; ((with_reducible refine (CP2.out).mono ?_); rintro e w1 ⟨A1, c1, rfl, hc1, C1, b1⟩; have HB1 := Lib.hid (below_next HB0.out b1); have HC1 := Lib.hid C1; clear b1 C1))
    go_loopw [6, 7] (fun v6 v7 wr => ∃ k : Nat, k <= P.length /\ v7 = .int .i64 k /\ Hid (∀ i, i < k -> ((Tk.tk (fs P) i).1 = 16 ↔ i % 2 = 1)) /\ Hid (GrT w1 v6 (evs ((fs P).take k)) wr)) (fun _ v7 _ => P.length - (RowKit.intOf v7).toNat)
    case atStart => exact ⟨0, Nat.zero_le _, rfl, Lib.hid (fun i hi => absurd hi (Nat.not_lt_zero _)), Lib.hid (Rl.Gr.start (Below.refl _ _))⟩
    case round =>
     obtain ⟨k, hk, rfl, HK, HG⟩ := hrel
     by_cases hlt : k < P.length
     ·obtain ⟨b, off, A', cp, rfl, hb, hcp, hTs, q0, q1, q2, q3⟩ := prt_at HC1.out hlt
      have HBk := Lib.hid HG.out.bel
      replace q0 := (HBk.out.cell (p := ⟨b, off + k * 4, none⟩) hb).trans q0
      replace q1 := (HBk.out.cell (p := ⟨b, off + k * 4 + 1, none⟩) hb).trans q1
      replace q2 := (HBk.out.cell (p := ⟨b, off + k * 4 + 2, none⟩) hb).trans q2
      replace q3 := (HBk.out.cell (p := ⟨b, off + k * 4 + 3, none⟩) hb).trans q3
      have HEV : Hid (evs ((fs P).take (k + 1)) = if k % 2 = 0 then evs ((fs P).take k) ++ [Tk.tk (fs P) k] else evs ((fs P).take k)) := Lib.hid (by
       have hl : k < (fs P).length := by rw [HFL.out]; exact hlt
       rw [List.take_succ_eq_append_getElem hl, evs_snoc _ _ _ (Nat.le_refl _), List.length_take, Nat.min_eq_left (by omega), Tk.tk_eq hl])
      have hel : (evs ((fs P).take k)).length <= 1000000 := by
       have h1 := evs_len _ ((fs P).take k) (Nat.le_refl _)
       rw [List.length_take] at h1
       omega
      have HKN : Hid (((Tk.tk (fs P) k).1 = 16 ↔ k % 2 = 1) -> ∀ i, i < k + 1 -> ((Tk.tk (fs P) i).1 = 16 ↔ i % 2 = 1)) := Lib.hid fun hh i hi => by
       by_cases e : i = k
       ·subst e; exact hh
       ·exact HK.out i (by omega)
      have HBAD : Hid (¬ ((Tk.tk (fs P) k).1 = 16 ↔ k % 2 = 1) -> rgs (fs P) = none) := Lib.hid fun hh => HR.out.2 fun hok => hh (hok.2 k (by rw [HFL.out]; exact hlt))
      clear hTs hcp HK
      generalize evs ((fs P).take k) = ev at *
      generalize hu : Tk.tk (fs P) k = u at *
      obtain ⟨kd, tx, num⟩ := u
      clear hu
      simp only at q0 q1 q2 HKN HBAD HEV
      by_cases h16 : kd = 16
      ·by_cases hod : k % 2 = 1
       ·have a1 : (kd == 16) = true := beq_iff_eq.2 h16
        have a2 : ((k : Int) % 2 == 1) = true := beq_iff_eq.2 (by omega)
        have a3 : ((k : Int) % 2 == 0) = false := beq_false_of_ne (by omega)
        have HN := Lib.hid (HKN.out (⟨fun _ => hod, fun _ => h16⟩))
        rw [if_neg (by omega)] at HEV
        clear h16 hod HKN HBAD
        go_wp2_with fail
        go_roundw
        case rel => exact ⟨k + 1, by omega, by go_num, HN, by rw [HEV.out]; exact HG⟩
        case measure => simp [RowKit.intOf]; omega
       ·have a1 : (kd == 16) = true := beq_iff_eq.2 h16
        have a2 : ((k : Int) % 2 == 1) = false := beq_false_of_ne (by omega)
        have a3 : ((k : Int) % 2 == 0) = true := beq_iff_eq.2 (by omega)
        have HV := Lib.hid (HBAD.out (fun hh => hod (hh.1 h16)))
        clear h16 hod HKN HBAD HEV
        go_wp2_with fail
        go_ret2
        exact TkIs.bad HV.out ⟨rfl, below_next HB1.out HBk.out⟩
      ·by_cases hod : k % 2 = 1
       ·have a1 : (kd == 16) = false := beq_false_of_ne h16
        have a2 : ((k : Int) % 2 == 1) = true := beq_iff_eq.2 (by omega)
        have a3 : ((k : Int) % 2 == 0) = false := beq_false_of_ne (by omega)
        have HV := Lib.hid (HBAD.out (fun hh => h16 (hh.2 hod)))
        clear h16 hod HKN HBAD HEV
        go_wp2_with fail
        go_ret2
        exact TkIs.bad HV.out ⟨rfl, below_next HB1.out HBk.out⟩
       ·have a1 : (kd == 16) = false := beq_false_of_ne h16
        have a2 : ((k : Int) % 2 == 1) = false := beq_false_of_ne (by omega)
        have a3 : ((k : Int) % 2 == 0) = true := beq_iff_eq.2 (by omega)
        have HN := Lib.hid (HKN.out (⟨fun c => absurd c h16, fun c => absurd c hod⟩))
        rw [if_pos (by omega)] at HEV
        clear h16 hod HKN HBAD
        go_wp2_with (at_builtin; refine app_tkp rfl _ _ rfl rfl HG.out (kd, tx, num) A' _ cp _ _ rfl hel ?_; intro v' w6 H6; have HG6 := Lib.hid H6; clear H6)
        go_roundw
        case rel => exact ⟨k + 1, by omega, by go_num, HN, by rw [HEV.out]; exact HG6⟩
        case measure => simp [RowKit.intOf]; omega
     ·obtain rfl : k = P.length := by omega
      have HV : Hid (rgs (fs P) = some (evs (fs P))) := Lib.hid (HR.out.1 ⟨by rw [HFL.out]; exact hodd, by rw [HFL.out]; exact HK.out⟩)
      have HG2 := Lib.hid HG.out
      rw [List.take_of_length_le (by rw [HFL.out]; exact Nat.le_refl _)] at HG2
      clear hlt HG HK HR
      go_wp2_with fail
      go_ret2
      obtain ⟨A9, c9, rfl, hc9, hC9, _⟩ := HG2.out.form
      exact TkIs.ok HV.out ⟨A9, c9, rfl, hc9, hC9, below_next HB1.out HG2.out.bel⟩
   ·have HV : Hid (rgs (fs P) = none) := Lib.hid (HR.out.2 (fun hok => hodd (by rw [<- HFL.out]; exact hok.1)))
    have hoddi : ((P.length : Int) % 2 == 0) = true := beq_iff_eq.2 (by omega)
    clear HR
    go_enter Try.func89, Try.ntmps89
    go_upto_region 1 with fail
    rw [HW.out]
    clear HW
    go_wp2_with (go_at_call 38; ((with_reducible refine (CP2.out).mono ?_); rintro e w1 ⟨A1, c1, rfl, hc1, C1, b1⟩; have HB1 := Lib.hid (below_next HB0.out b1); clear b1 C1))
    go_ret2
    exact TkIs.bad HV.out ⟨rfl, HB1.out⟩
end Go.Proofs.Ytaofkaehhikfaaa
namespace Go.Proofs.Ytaofkaehhikfaaa
open Go.RowKit Vl
namespace Vl
abbrev itV (it : Itm) : Value := .agg #[.int .i64 it.1, .string it.2.1, .string it.2.2.1, .int .i64 it.2.2.2.1, .int .i64 it.2.2.2.2]
abbrev itO (a : Int) (b c : ByteArray) (d e : Int) : Obj := .cells #[.int .i64 a, .string b, .string c, .int .i64 d, .int .i64 e] 57
def ItIs (o : Option Itm) (w : World) (e : Ending) (w' : World) : Prop := ∃ (it : Itm) (b : Bool), e = .returned (.tuple #[itV it, .bool b]) /\ Below w.heap.size w w' /\ o = if b = true then some it else none
theorem five_cells {w : World} {k : Nat} {x0 x1 x2 x3 x4 : Value} {E : TypeId} (h : w.heap[k]? = some (.cells #[x0, x1, x2, x3, x4] E (0, 0))) :
 (w.cell? ⟨k, 0, none⟩ = some x0 /\ w.cell? ⟨k, 1, none⟩ = some x1 /\ w.cell? ⟨k, 2, none⟩ = some x2 /\ w.cell? ⟨k, 3, none⟩ = some x3 /\ w.cell? ⟨k, 4, none⟩ = some x4) /\ ∀ o, w.frozen? ⟨k, o, none⟩ = false := by
 refine ⟨⟨?_, ?_, ?_, ?_, ?_⟩, fun o => ?_⟩ <;> simp [World.cell?, World.frozen?, h]
structure ItF (w W : World) (t : Tk.Tok) (A : Option Addr) (n cap : Nat) : Prop where
 p : W.heap[w.heap.size]? = some (prtO t A n cap)
 r : W.heap[w.heap.size + 1]? = some (itO 0 ⟨#[]⟩ ⟨#[]⟩ 0 0)
 z : W.heap[w.heap.size + 2]? = some (itO 0 ⟨#[]⟩ ⟨#[]⟩ 0 0)
 b : Below w.heap.size w W
theorem ItF.next {w W W2 : World} {t : Tk.Tok} {A : Option Addr} {n cap : Nat} (h : ItF w W t A n cap) (hb : Below W.heap.size W W2) : ItF w W2 t A n cap :=
 ⟨below_block hb h.p, below_block hb h.r, below_block hb h.z, below_next h.b hb⟩
theorem ItF.start (w : World) (t : Tk.Tok) (A : Option Addr) (n cap : Nat) : ItF w (((w.alloc (prtO t A n cap)).alloc (itO 0 ⟨#[]⟩ ⟨#[]⟩ 0 0)).alloc (itO 0 ⟨#[]⟩ ⟨#[]⟩ 0 0)) t A n cap := by
 have b1 := (Below.refl w.heap.size w).alloc (Nat.le_refl _) (prtO t A n cap)
 have k1 := heap_alloc_new w (prtO t A n cap)
 have z1 : (w.alloc (prtO t A n cap)).heap.size = w.heap.size + 1 := by simp
 generalize w.alloc (prtO t A n cap) = w1 at *
 have b2 := (Below.refl w1.heap.size w1).alloc (Nat.le_refl _) (itO 0 ⟨#[]⟩ ⟨#[]⟩ 0 0)
 have k2 := heap_alloc_new w1 (itO 0 ⟨#[]⟩ ⟨#[]⟩ 0 0)
 have z2 : (w1.alloc (itO 0 ⟨#[]⟩ ⟨#[]⟩ 0 0)).heap.size = w1.heap.size + 1 := by simp
 generalize w1.alloc (itO 0 ⟨#[]⟩ ⟨#[]⟩ 0 0) = w2 at *
 have b3 := (Below.refl w2.heap.size w2).alloc (Nat.le_refl _) (itO 0 ⟨#[]⟩ ⟨#[]⟩ 0 0)
 have k3 := heap_alloc_new w2 (itO 0 ⟨#[]⟩ ⟨#[]⟩ 0 0)
 rw [z2, z1] at k3
 rw [z1] at k2
 exact ⟨below_block b3 (below_block b2 k1), below_block b3 k2, k3, below_next (below_next b1 b2) b3⟩
def ArgT (N : Nat) (ts : List Tk.Tok) (w : World) (e : Ending) (w' : World) : Prop := ∃ (A : Option Addr) (cap : Nat), e = .returned (.tuple #[.slice A N cap, .bool true]) /\ N <= cap /\ Rl.Cells 4 TkP w' A ts /\ Below w.heap.size w w'
theorem below_set5 {B g : Nat} {w W : World} (h : Below B w W) (hg : B <= g) (a b c d e : Value) : Below B w (((((W.setCell ⟨g, 0, none⟩ a).setCell ⟨g, 1, none⟩ b).setCell ⟨g, 2, none⟩ c).setCell ⟨g, 3, none⟩ d).setCell ⟨g, 4, none⟩ e) :=
 ((((h.setCell (p := ⟨g, 0, none⟩) hg a).setCell (p := ⟨g, 1, none⟩) hg b).setCell (p := ⟨g, 2, none⟩) hg c).setCell (p := ⟨g, 3, none⟩) hg d).setCell (p := ⟨g, 4, none⟩) hg e
theorem ItF.lt {w W : World} {t : Tk.Tok} {A : Option Addr} {n cap : Nat} (h : ItF w W t A n cap) : w.heap.size + 2 < W.heap.size := (Array.getElem?_eq_some_iff.1 h.z).1
theorem ItF.set {w W : World} {t : Tk.Tok} {A : Option Addr} {n cap : Nat} (h : ItF w W t A n cap) {g : Nat} (hg : w.heap.size + 2 < g) (i : Nat) (v : Value) : ItF w (W.setCell ⟨g, i, none⟩ v) t A n cap :=
 ⟨(Below.heap_setCell _ _ _ _ (by simp; omega)).trans h.p, (Below.heap_setCell _ _ _ _ (by simp; omega)).trans h.r, (Below.heap_setCell _ _ _ _ (by simp; omega)).trans h.z, h.b.setCell (p := ⟨g, i, none⟩) (by simp; omega) v⟩
theorem far_cell {W : World} {g i b o : Nat} {v : Value} (h : b < g) : (W.setCell ⟨g, i, none⟩ v).cell? ⟨b, o, none⟩ = W.cell? ⟨b, o, none⟩ := World.cell?_setCell_other W _ _ v (fun e => by injection e with e; omega)
theorem set5 {w : World} {k : Nat} {a b c d e : Value} {E : TypeId} (h : w.heap[k]? = some (.cells #[a, b, c, d, e] E (0, 0))) (x : Value) :
 (w.setCell ⟨k, 0, none⟩ x).heap[k]? = some (.cells #[x, b, c, d, e] E (0, 0)) /\ (w.setCell ⟨k, 1, none⟩ x).heap[k]? = some (.cells #[a, x, c, d, e] E (0, 0)) /\ (w.setCell ⟨k, 3, none⟩ x).heap[k]? = some (.cells #[a, b, c, x, e] E (0, 0)) /\ (w.setCell ⟨k, 4, none⟩ x).heap[k]? = some (.cells #[a, b, c, d, x] E (0, 0)) := by
 refine ⟨?_, ?_, ?_, ?_⟩ <;> simp [World.setCell, Array.getElem?_modify, h]
theorem ss_lit_next {w w1 : World} {l : List ByteArray} {T : TypeId} (hb : Below (w.alloc (.cells (l.map Value.string).toArray T)).heap.size (w.alloc (.cells (l.map Value.string).toArray T)) w1) : Ss w1 (some ⟨w.heap.size, 0, none⟩) l := fun h0 => by
 obtain ⟨b, off, e, hc⟩ := ss_lit w l T h0
 injection e with e
 injection e with e1 e2
 subst e1 e2
 exact ⟨_, _, rfl, fun k h => (hb.cell (p := ⟨w.heap.size, 0 + k, none⟩) (by simp)).trans (hc k h)⟩
theorem below_lit {w w1 : World} {o : Obj} (hb : Below (w.alloc o).heap.size (w.alloc o) w1) : Below w.heap.size w w1 := ((Below.refl _ _).alloc (Nat.le_refl _) _).trans (hb.mono (by simp))
theorem heap_setCell_size (w : World) (p : Addr) (v : Value) : (w.setCell p v).heap.size = w.heap.size := by simp [World.setCell]
theorem tkp_all {w' : World} {A : Option Addr} {ts : List Tk.Tok} (h : Rl.Cells 4 TkP w' A ts) (h0 : 0 < ts.length) :
 ∃ b off, A = some ⟨b, off, none⟩ /\ b < w'.heap.size /\ ∀ i, i < ts.length -> ∃ A' n cap, w'.cell? ⟨b, off + i * 4, none⟩ = some (.int .i64 (Tk.tk ts i).1) /\ w'.cell? ⟨b, off + i * 4 + 1, none⟩ = some (.string (Tk.tk ts i).2.1) /\
   w'.cell? ⟨b, off + i * 4 + 2, none⟩ = some (.int .i64 (Tk.tk ts i).2.2) /\ w'.cell? ⟨b, off + i * 4 + 3, none⟩ = some (.slice A' n cap) := by
 obtain ⟨b, off, e, hb, hc⟩ := h h0
 refine ⟨b, off, e, hb, fun i hi => ?_⟩
 obtain ⟨cs, _, ⟨A', n, cap, rfl⟩, h3⟩ := hc i hi
 rw [Tk.tk_eq hi]
 exact ⟨A', n, cap, h3 0 _ rfl, h3 1 _ rfl, h3 2 _ rfl, h3 3 _ rfl⟩
end Vl
theorem vitem_text (tx : ByteArray) (num : Int) (A : Option Addr) (n cap : Nat) (w : World) : Calls Try.prog 70 #[prtV (6, tx, num) A n cap] w (ItIs (some (1, tx, ⟨#[]⟩, 0, 0)) w) := by
 obtain ⟨W2, hW, hF⟩ : ∃ W2, ((w.alloc (prtO (6, tx, num) A n cap)).alloc (itO 0 ⟨#[]⟩ ⟨#[]⟩ 0 0)).alloc (itO 0 ⟨#[]⟩ ⟨#[]⟩ 0 0) = W2 /\ ItF w W2 (6, tx, num) A n cap := ⟨_, rfl, ItF.start w _ A n cap⟩
 have HW := Lib.hid hW
 have HF := Lib.hid hF
 obtain ⟨p0, p1, p2, p3⟩ : W2.cell? ⟨w.heap.size, 0, none⟩ = some (.int .i64 6) /\ W2.cell? ⟨w.heap.size, 1, none⟩ = some (.string tx) /\ W2.cell? ⟨w.heap.size, 2, none⟩ = some (.int .i64 num) /\ W2.cell? ⟨w.heap.size, 3, none⟩ = some (.slice A n cap) := four_cells hF.p
 obtain ⟨⟨r0, r1, r2, r3, r4⟩, rz⟩ := five_cells hF.r
 clear hF hW
 go_enter Try.func70, Try.ntmps70
 go_upto_region 2 with fail
 rw [HW.out]
 clear HW
 go_wp2_with fail
 exact bodyPost_ret (v := .tuple #[itV (1, tx, ⟨#[]⟩, 0, 0), .bool true]) (by simp [results, Try.results70, go_sem, r0, r1, r2, r3, r4]) rfl ⟨(1, tx, ⟨#[]⟩, 0, 0), true, rfl, below_set5 HF.out.b (by omega) _ _ _ _ _, rfl⟩
end Go.Proofs.Ytaofkaehhikfaaa
namespace Go.Proofs.Ytaofkaehhikfaaa
open Go.RowKit Vl
theorem item_new (w : World) : ∃ W0, w.alloc (itO 0 ⟨#[]⟩ ⟨#[]⟩ 0 0) = W0 /\ Below w.heap.size w W0 /\ W0.heap[w.heap.size]? = some (itO 0 ⟨#[]⟩ ⟨#[]⟩ 0 0) :=
 ⟨_, rfl, (Below.refl _ _).alloc (Nat.le_refl _) _, heap_alloc_new w _⟩
theorem lst_mem {r : List Tk.Tok} {l : List Tk.Tok} {s : ByteArray} (h : ldT l = some (s, r)) (hs : ∀ x ∈ l, x.2.1.size <= 90000) : ∀ x ∈ r, x.2.1.size <= 90000 := fun x hx => hs x ((ldT_len h).2 x hx)
theorem ccounter_any (l : List Tk.Tok) (hm : l.length <= 1000) (hs : ∀ x ∈ l, x.2.1.size <= 90000) (A : Option Addr) (cap : Nat) (hcap : l.length <= cap) (w : World) (h : Ts w w.heap.size A l) :
 Calls Try.prog 64 #[.slice A l.length cap] w (ItIs (mkCounter l) w) := by
 obtain ⟨W0, hW, hb0, k0⟩ := item_new w
 have HB := Lib.hid hb0
 have HK := Lib.hid k0
 have HW := Lib.hid hW
 have C := cleading_any l hm hs A cap hcap W0 (h.next hb0)
 clear hb0 k0 hW h
 cases hl2 : ldT l with
 | none =>
   have CL : Hid (Calls Try.prog 42 #[.slice A l.length cap] W0 (LdNo W0)) := Lib.hid (C.mono fun e w' h => h.2 hl2)
   have HV : Hid (mkCounter l = none) := Lib.hid (by
    cases l with
    | nil => rfl
    | cons x r =>
      have h' : (if nam x = true then some (x.2.1, r) else none) = none := hl2
      split at h'
      ·cases h'
      ·rename_i hn; exact if_neg hn)
   have CA : Hid (∀ W M, MapS W M (numT styles) -> Calls Try.prog 83 #[.slice none 0 0, .map (some M), .int .i64 0] W (LaIs (some 0) W)) := Lib.hid fun W M hM => clast_any [] styles 0 (by simp) (fun x hx => by cases hx) none 0 M W (fun h => by simp at h) hM
   clear C hl2
   go_enter Try.func64, Try.ntmps64
   go_upto_region 1 with fail
   rw [HW.out]
   clear HW
   go_wp2_with (first | (go_at_call 42; ((with_reducible refine (CL.out).mono ?_); rintro e w1 ⟨rfl, b1⟩; have HB := Lib.hid (below_next HB.out b1); have HK := Lib.hid (below_block b1 HK.out); clear b1)) | (go_at_call 57; ((with_reducible refine (cstyles_any _).mono ?_); rintro e w2 ⟨M, rfl, hM, b2, _⟩; have HB := Lib.hid (below_next HB.out b2); have HK := Lib.hid (below_block b2 HK.out); have HM := Lib.hid hM; clear b2 hM)) | (go_at_call 83; ((with_reducible refine (CA.out _ _ HM.out).mono ?_); rintro e w3 ⟨n, bb, rfl, b3, hb0, ho⟩; have HB := Lib.hid (below_next HB.out b3); have HK := Lib.hid (below_block b3 HK.out); obtain ⟨⟨r0, r1, r2, r3, r4⟩, rz⟩ := five_cells HK.out; clear b3 ho hb0)))
   exact bodyPost_ret (v := .tuple #[itV (0, ⟨#[]⟩, ⟨#[]⟩, 0, 0), .bool false]) (by simp [results, Try.results64, go_sem, r0, r1, r2, r3, r4]) rfl ⟨(0, ⟨#[]⟩, ⟨#[]⟩, 0, 0), false, rfl, below_set5 HB.out (Nat.le_refl _) _ _ _ _ _, HV.out⟩
 | some p =>
   obtain ⟨s, r⟩ := p
   have CL : Hid (Calls Try.prog 42 #[.slice A l.length cap] W0 (LdYes s r W0)) := Lib.hid (C.mono fun e w' h => h.1 s r hl2)
   have hrl := (ldT_len hl2).1
   have hrs := lst_mem hl2 hs
   have HV0 : Hid (mkCounter l = (lst r styles 0).map (fun n => ((2 : Int), (⟨#[]⟩ : ByteArray), s, n, (0 : Int)))) := Lib.hid (by
    cases l with
    | nil => cases hl2
    | cons x q =>
      have h' : (if nam x = true then some (x.2.1, q) else none) = some (s, r) := hl2
      split at h'
      ·rename_i hn
       cases h'
       exact if_pos hn
      ·cases h')
   have CA : Hid (∀ W A c M, Ts W W.heap.size A r -> MapS W M (numT styles) -> Calls Try.prog 83 #[.slice A r.length c, .map (some M), .int .i64 0] W (LaIs (lst r styles 0) W)) := Lib.hid fun W A c M hT hM => clast_any r styles 0 (by omega) hrs A c M W hT hM
   clear C hl2 hrs
   generalize lst r styles 0 = lo at *
   cases lo with
   | none =>
     go_enter Try.func64, Try.ntmps64
     go_upto_region 1 with fail
     rw [HW.out]
     clear HW
     have HV := HV0
     go_wp2_with (first | (go_at_call 42; ((with_reducible refine (CL.out).mono ?_); rintro e w1 ⟨A1, c1, rfl, hc1, T1, b1⟩; have HB := Lib.hid (below_next HB.out b1); have HK := Lib.hid (below_block b1 HK.out); have HT := Lib.hid T1; clear b1 T1)) | (go_at_call 57; ((with_reducible refine (cstyles_any _).mono ?_); rintro e w2 ⟨M, rfl, hM, b2, _⟩; have HB := Lib.hid (below_next HB.out b2); have HK := Lib.hid (below_block b2 HK.out); have HM := Lib.hid hM; have HT := Lib.hid (HT.out.next b2); clear b2 hM)) | (go_at_call 83; ((with_reducible refine (CA.out _ _ _ _ HT.out HM.out).mono ?_); rintro e w3 ⟨n, bb, rfl, b3, hb0, ho⟩; have HB := Lib.hid (below_next HB.out b3); have HK := Lib.hid (below_block b3 HK.out); obtain ⟨⟨r0, r1, r2, r3, r4⟩, rz⟩ := five_cells HK.out; have HO := Lib.hid ho; obtain rfl : bb = false := (by cases bb <;> first | rfl | cases HO.out); clear b3 ho)))
     exact bodyPost_ret (v := .tuple #[itV (0, ⟨#[]⟩, ⟨#[]⟩, 0, 0), .bool false]) (by simp [results, Try.results64, go_sem, r0, r1, r2, r3, r4]) rfl ⟨(0, ⟨#[]⟩, ⟨#[]⟩, 0, 0), false, rfl, below_set5 HB.out (Nat.le_refl _) _ _ _ _ _, HV.out⟩
   | some n0 =>
     go_enter Try.func64, Try.ntmps64
     go_upto_region 1 with fail
     rw [HW.out]
     clear HW
     have HV := HV0
     go_wp2_with (first | (go_at_call 42; ((with_reducible refine (CL.out).mono ?_); rintro e w1 ⟨A1, c1, rfl, hc1, T1, b1⟩; have HB := Lib.hid (below_next HB.out b1); have HK := Lib.hid (below_block b1 HK.out); have HT := Lib.hid T1; clear b1 T1)) | (go_at_call 57; ((with_reducible refine (cstyles_any _).mono ?_); rintro e w2 ⟨M, rfl, hM, b2, _⟩; have HB := Lib.hid (below_next HB.out b2); have HK := Lib.hid (below_block b2 HK.out); have HM := Lib.hid hM; have HT := Lib.hid (HT.out.next b2); clear b2 hM)) | (go_at_call 83; ((with_reducible refine (CA.out _ _ _ _ HT.out HM.out).mono ?_); rintro e w3 ⟨n, bb, rfl, b3, hb0, ho⟩; have HB := Lib.hid (below_next HB.out b3); have HK := Lib.hid (below_block b3 HK.out); obtain ⟨⟨r0, r1, r2, r3, r4⟩, rz⟩ := five_cells HK.out; have HO := Lib.hid ho; obtain rfl : bb = true := (by cases bb <;> first | rfl | cases HO.out); obtain rfl : n0 = n := (by have := HO.out; injection this); clear b3 ho)))
     exact bodyPost_ret (v := .tuple #[itV (2, ⟨#[]⟩, s, n0, 0), .bool true]) (by simp [results, Try.results64, go_sem, r0, r1, r2, r3, r4]) rfl ⟨(2, ⟨#[]⟩, s, n0, 0), true, rfl, below_set5 HB.out (Nat.le_refl _) _ _ _ _ _, HV.out⟩
theorem cassigned_any (l : List Tk.Tok) (hm : l.length <= 1000) (hs : ∀ x ∈ l, x.2.1.size <= 90000) (A : Option Addr) (cap : Nat) (hcap : l.length <= cap) (kd : Int) (bk : Nat) (w : World) (h : Ts w w.heap.size A l) (hl : bk < w.heap.size) (hk : w.cell? ⟨bk, 0, none⟩ = some (.int .i64 kd)) :
 Calls Try.prog 84 #[.slice A l.length cap, .pointer (some ⟨bk, 0, none⟩)] w (ItIs (mkAssigned kd l) w) := by
 obtain ⟨W0, hW, hb0, k0⟩ := item_new w
 have HB := Lib.hid hb0
 have HK := Lib.hid k0
 have HW := Lib.hid hW
 have HC := Lib.hid (fun (W : World) (hb : Below w.heap.size w W) => (hb.cell (p := ⟨bk, 0, none⟩) hl).trans hk)
 have C := cleading_any l hm hs A cap hcap W0 (h.next hb0)
 clear hb0 k0 hW h hl hk
 cases hl2 : ldT l with
 | none =>
   have CL : Hid (Calls Try.prog 42 #[.slice A l.length cap] W0 (LdNo W0)) := Lib.hid (C.mono fun e w' h => h.2 hl2)
   have HV : Hid (mkAssigned kd l = none) := Lib.hid (by
    cases l with
    | nil => rfl
    | cons x r =>
      have h' : (if nam x = true then some (x.2.1, r) else none) = none := hl2
      split at h'
      ·cases h'
      ·rename_i hn; exact if_neg hn)
   have CA : Hid (∀ W M, MapS W M (numT whichs) -> Calls Try.prog 83 #[.slice none 0 0, .map (some M), .int .i64 1] W (LaIs (some 1) W)) := Lib.hid fun W M hM => clast_any [] whichs 1 (by simp) (fun x hx => by cases hx) none 0 M W (fun h => by simp at h) hM
   clear C hl2
   go_enter Try.func84, Try.ntmps84
   go_upto_region 1 with fail
   rw [HW.out]
   clear HW
   go_wp2_with (first | (go_at_call 42; ((with_reducible refine (CL.out).mono ?_); rintro e w1 ⟨rfl, b1⟩; have HB := Lib.hid (below_next HB.out b1); have HK := Lib.hid (below_block b1 HK.out); clear b1)) | (go_at_call 85; ((with_reducible refine (cwhich_any _).mono ?_); rintro e w2 ⟨M, rfl, hM, b2, _⟩; have HB := Lib.hid (below_next HB.out b2); have HK := Lib.hid (below_block b2 HK.out); have HM := Lib.hid hM; clear b2 hM)) | (go_at_call 83; ((with_reducible refine (CA.out _ _ HM.out).mono ?_); rintro e w3 ⟨n, bb, rfl, b3, hb0, ho⟩; have HB := Lib.hid (below_next HB.out b3); have HK := Lib.hid (below_block b3 HK.out); obtain ⟨⟨r0, r1, r2, r3, r4⟩, rz⟩ := five_cells HK.out; clear b3 ho hb0)))
   exact bodyPost_ret (v := .tuple #[itV (0, ⟨#[]⟩, ⟨#[]⟩, 0, 0), .bool false]) (by simp [results, Try.results84, go_sem, r0, r1, r2, r3, r4]) rfl ⟨(0, ⟨#[]⟩, ⟨#[]⟩, 0, 0), false, rfl, below_set5 HB.out (Nat.le_refl _) _ _ _ _ _, HV.out⟩
 | some p =>
   obtain ⟨s, r⟩ := p
   have CL : Hid (Calls Try.prog 42 #[.slice A l.length cap] W0 (LdYes s r W0)) := Lib.hid (C.mono fun e w' h => h.1 s r hl2)
   have hrl := (ldT_len hl2).1
   have hrs := lst_mem hl2 hs
   have HV0 : Hid (mkAssigned kd l = (lst r whichs 1).map (fun n => ((kd : Int), (⟨#[]⟩ : ByteArray), s, (0 : Int), n))) := Lib.hid (by
    cases l with
    | nil => cases hl2
    | cons x q =>
      have h' : (if nam x = true then some (x.2.1, q) else none) = some (s, r) := hl2
      split at h'
      ·rename_i hn
       cases h'
       exact if_pos hn
      ·cases h')
   have CA : Hid (∀ W A c M, Ts W W.heap.size A r -> MapS W M (numT whichs) -> Calls Try.prog 83 #[.slice A r.length c, .map (some M), .int .i64 1] W (LaIs (lst r whichs 1) W)) := Lib.hid fun W A c M hT hM => clast_any r whichs 1 (by omega) hrs A c M W hT hM
   clear C hl2 hrs
   generalize lst r whichs 1 = lo at *
   cases lo with
   | none =>
     go_enter Try.func84, Try.ntmps84
     go_upto_region 1 with fail
     rw [HW.out]
     clear HW
     have HV := HV0
     go_wp2_with (first | (go_at_call 42; ((with_reducible refine (CL.out).mono ?_); rintro e w1 ⟨A1, c1, rfl, hc1, T1, b1⟩; have HB := Lib.hid (below_next HB.out b1); have HK := Lib.hid (below_block b1 HK.out); have HT := Lib.hid T1; clear b1 T1)) | (go_at_call 85; ((with_reducible refine (cwhich_any _).mono ?_); rintro e w2 ⟨M, rfl, hM, b2, _⟩; have HB := Lib.hid (below_next HB.out b2); have HK := Lib.hid (below_block b2 HK.out); have HM := Lib.hid hM; have HT := Lib.hid (HT.out.next b2); clear b2 hM)) | (go_at_call 83; ((with_reducible refine (CA.out _ _ _ _ HT.out HM.out).mono ?_); rintro e w3 ⟨n, bb, rfl, b3, hb0, ho⟩; have HB := Lib.hid (below_next HB.out b3); have HK := Lib.hid (below_block b3 HK.out); obtain ⟨⟨r0, r1, r2, r3, r4⟩, rz⟩ := five_cells HK.out; have HO := Lib.hid ho; obtain rfl : bb = false := (by cases bb <;> first | rfl | cases HO.out); have xk := HC.out _ HB.out; clear b3 ho)))
     exact bodyPost_ret (v := .tuple #[itV (0, ⟨#[]⟩, ⟨#[]⟩, 0, 0), .bool false]) (by simp [results, Try.results84, go_sem, r0, r1, r2, r3, r4]) rfl ⟨(0, ⟨#[]⟩, ⟨#[]⟩, 0, 0), false, rfl, below_set5 HB.out (Nat.le_refl _) _ _ _ _ _, HV.out⟩
   | some n0 =>
     go_enter Try.func84, Try.ntmps84
     go_upto_region 1 with fail
     rw [HW.out]
     clear HW
     have HV := HV0
     go_wp2_with (first | (go_at_call 42; ((with_reducible refine (CL.out).mono ?_); rintro e w1 ⟨A1, c1, rfl, hc1, T1, b1⟩; have HB := Lib.hid (below_next HB.out b1); have HK := Lib.hid (below_block b1 HK.out); have HT := Lib.hid T1; clear b1 T1)) | (go_at_call 85; ((with_reducible refine (cwhich_any _).mono ?_); rintro e w2 ⟨M, rfl, hM, b2, _⟩; have HB := Lib.hid (below_next HB.out b2); have HK := Lib.hid (below_block b2 HK.out); have HM := Lib.hid hM; have HT := Lib.hid (HT.out.next b2); clear b2 hM)) | (go_at_call 83; ((with_reducible refine (CA.out _ _ _ _ HT.out HM.out).mono ?_); rintro e w3 ⟨n, bb, rfl, b3, hb0, ho⟩; have HB := Lib.hid (below_next HB.out b3); have HK := Lib.hid (below_block b3 HK.out); obtain ⟨⟨r0, r1, r2, r3, r4⟩, rz⟩ := five_cells HK.out; have HO := Lib.hid ho; obtain rfl : bb = true := (by cases bb <;> first | rfl | cases HO.out); obtain rfl : n0 = n := (by have := HO.out; injection this); have xk := HC.out _ HB.out; clear b3 ho)))
     exact bodyPost_ret (v := .tuple #[itV (kd, ⟨#[]⟩, s, 0, n0), .bool true]) (by simp [results, Try.results84, go_sem, r0, r1, r2, r3, r4]) rfl ⟨(kd, ⟨#[]⟩, s, 0, n0), true, rfl, below_set5 HB.out (Nat.le_refl _) _ _ _ _ _, HV.out⟩
theorem cattribute_any (l : List Tk.Tok) (hm : l.length <= 1000) (hs : ∀ x ∈ l, x.2.1.size <= 90000) (A : Option Addr) (cap : Nat) (hcap : l.length <= cap) (w : World) (h : Ts w w.heap.size A l) :
 Calls Try.prog 67 #[.slice A l.length cap] w (ItIs (mkAttr l) w) := by
 obtain ⟨W0, hW, hb0, k0⟩ := item_new w
 have HB := Lib.hid hb0
 have HK := Lib.hid k0
 have HW := Lib.hid hW
 have C := conly_any l hm hs A cap hcap W0 (h.next hb0)
 have HV0 : Hid (mkAttr l = (only l).map fun s => ((6 : Int), (⟨#[]⟩ : ByteArray), s, (0 : Int), (0 : Int))) := Lib.hid (by
  match l with
  | [] => rfl
  | [x] =>
    show (if nam x = true then _ else none) = (if nam x = true then some x.2.1 else none).map _
    split <;> rfl
  | x :: y :: r => rfl)
 clear hb0 k0 hW h hs
 generalize only l = lo at *
 have CL := Lib.hid C
 clear C
 cases lo with
 | none =>
   go_enter Try.func67, Try.ntmps67
   go_upto_region 1 with fail
   rw [HW.out]
   clear HW
   have HV := HV0
   go_wp2_with (go_at_call 53; ((with_reducible refine (CL.out).mono ?_); rintro e w1 ⟨s, bb, rfl, b1, hs0, ho⟩; have HB := Lib.hid (below_next HB.out b1); have HK := Lib.hid (below_block b1 HK.out); obtain ⟨⟨r0, r1, r2, r3, r4⟩, rz⟩ := five_cells HK.out; obtain rfl : bb = false := (by cases bb <;> first | rfl | cases ho); clear b1 ho))
   exact bodyPost_ret (v := .tuple #[itV (0, ⟨#[]⟩, ⟨#[]⟩, 0, 0), .bool false]) (by simp [results, Try.results67, go_sem, r0, r1, r2, r3, r4]) rfl ⟨(0, ⟨#[]⟩, ⟨#[]⟩, 0, 0), false, rfl, below_set5 HB.out (Nat.le_refl _) _ _ _ _ _, HV.out⟩
 | some s0 =>
   go_enter Try.func67, Try.ntmps67
   go_upto_region 1 with fail
   rw [HW.out]
   clear HW
   have HV := HV0
   go_wp2_with (go_at_call 53; ((with_reducible refine (CL.out).mono ?_); rintro e w1 ⟨s, bb, rfl, b1, hs0, ho⟩; have HB := Lib.hid (below_next HB.out b1); have HK := Lib.hid (below_block b1 HK.out); obtain ⟨⟨r0, r1, r2, r3, r4⟩, rz⟩ := five_cells HK.out; obtain rfl : bb = true := (by cases bb <;> first | rfl | cases ho); obtain rfl : s0 = s := (by injection ho); clear b1 ho))
   exact bodyPost_ret (v := .tuple #[itV (6, ⟨#[]⟩, s0, 0, 0), .bool true]) (by simp [results, Try.results67, go_sem, r0, r1, r2, r3, r4]) rfl ⟨(6, ⟨#[]⟩, s0, 0, 0), true, rfl, below_set5 HB.out (Nat.le_refl _) _ _ _ _ _, HV.out⟩
theorem cwhole_any (l : List Tk.Tok) (hm : l.length <= 1000) (_hs : ∀ x ∈ l, x.2.1.size <= 90000) (A : Option Addr) (cap : Nat) (hcap : l.length <= cap) (w : World) (_h : Ts w w.heap.size A l) :
 Calls Try.prog 44 #[.slice A l.length cap] w (ItIs (mkWhole l) w) := by
 obtain ⟨W0, hW, hb0, k0⟩ := item_new w
 have HB := Lib.hid hb0
 have HK := Lib.hid k0
 have HW := Lib.hid hW
 clear hb0 k0 hW
 obtain ⟨⟨r0, r1, r2, r3, r4⟩, rz⟩ := five_cells HK.out
 cases l with
 | nil =>
   have HV : Hid (mkWhole [] = some (6, ⟨#[]⟩, ⟨#[]⟩, 0, 0)) := Lib.hid rfl
   go_enter Try.func44, Try.ntmps44
   go_upto_region 1 with fail
   rw [HW.out]
   clear HW
   go_wp2_with fail
   exact bodyPost_ret (v := .tuple #[itV (6, ⟨#[]⟩, ⟨#[]⟩, 0, 0), .bool true]) (by simp [results, Try.results44, go_sem, r0, r1, r2, r3, r4]) rfl ⟨(6, ⟨#[]⟩, ⟨#[]⟩, 0, 0), true, rfl, below_set5 HB.out (Nat.le_refl _) _ _ _ _ _, HV.out⟩
 | cons x r =>
   have HV : Hid (mkWhole (x :: r) = none) := Lib.hid rfl
   have hpos : (0 : Int) < ((x :: r).length : Int) := by simp
   go_enter Try.func44, Try.ntmps44
   go_upto_region 1 with fail
   rw [HW.out]
   clear HW
   go_wp2_with fail
   exact bodyPost_ret (v := .tuple #[itV (0, ⟨#[]⟩, ⟨#[]⟩, 0, 0), .bool false]) (by simp [results, Try.results44, go_sem, r0, r1, r2, r3, r4]) rfl ⟨(0, ⟨#[]⟩, ⟨#[]⟩, 0, 0), false, rfl, below_set5 HB.out (Nat.le_refl _) _ _ _ _ _, HV.out⟩
end Go.Proofs.Ytaofkaehhikfaaa
namespace Go.Proofs.Ytaofkaehhikfaaa
open Go.RowKit Vl
def csT (s : ByteArray) : List Tk.Tok -> Option Itm
 | y :: q => if y.1 = 6 then (lst q styles 0).map (fun n => ((3 : Int), y.2.1, s, n, (0 : Int))) else none
 | [] => none
theorem mkCounters_none {l : List Tk.Tok} (hl2 : ldT l = none) : mkCounters l = none := by
 match l, hl2 with
 | [], _ => rfl
 | [x], _ => rfl
 | x :: y :: r, hl2 =>
   have h' : (if nam x = true then some (x.2.1, y :: r) else none) = none := hl2
   split at h'
   ·cases h'
   ·rename_i hn; exact if_neg (fun c => hn c.1)
theorem mkCounters_some {l r : List Tk.Tok} {s : ByteArray} (hl2 : ldT l = some (s, r)) : mkCounters l = csT s r := by
 cases l with
 | nil => cases hl2
 | cons x q =>
   have h' : (if nam x = true then some (x.2.1, q) else none) = some (s, r) := hl2
   split at h'
   ·rename_i hn
    cases h'
    cases r with
    | nil => rfl
    | cons y q =>
      show (if nam x = true /\ y.1 = 6 then _ else none) = if y.1 = 6 then _ else none
      by_cases h6 : y.1 = 6
      ·rw [if_pos h6, if_pos ⟨hn, h6⟩]
      ·rw [if_neg h6, if_neg (fun c => h6 c.2)]
   ·cases h'
theorem ccounters_any (l : List Tk.Tok) (hm : l.length <= 1000) (hs : ∀ x ∈ l, x.2.1.size <= 90000) (A : Option Addr) (cap : Nat) (hcap : l.length <= cap) (w : World) (h : Ts w w.heap.size A l) :
 Calls Try.prog 65 #[.slice A l.length cap] w (ItIs (mkCounters l) w) := by
 obtain ⟨W0, hW, hb0, k0⟩ := item_new w
 have HB := Lib.hid hb0
 have HK := Lib.hid k0
 have HW := Lib.hid hW
 have C := cleading_any l hm hs A cap hcap W0 (h.next hb0)
 clear hb0 k0 hW h
 cases hl2 : ldT l with
 | none =>
   have CL : Hid (Calls Try.prog 42 #[.slice A l.length cap] W0 (LdNo W0)) := Lib.hid (C.mono fun e w' h => h.2 hl2)
   have HV : Hid (mkCounters l = none) := Lib.hid (mkCounters_none hl2)
   clear C hl2
   go_enter Try.func65, Try.ntmps65
   go_upto_region 1 with fail
   rw [HW.out]
   clear HW
   go_wp2_with (go_at_call 42; ((with_reducible refine (CL.out).mono ?_); rintro e w1 ⟨rfl, b1⟩; have HB := Lib.hid (below_next HB.out b1); have HK := Lib.hid (below_block b1 HK.out); obtain ⟨⟨r0, r1, r2, r3, r4⟩, rz⟩ := five_cells HK.out; clear b1))
   exact bodyPost_ret (v := .tuple #[itV (0, ⟨#[]⟩, ⟨#[]⟩, 0, 0), .bool false]) (by simp [results, Try.results65, go_sem, r0, r1, r2, r3, r4]) rfl ⟨(0, ⟨#[]⟩, ⟨#[]⟩, 0, 0), false, rfl, below_set5 HB.out (Nat.le_refl _) _ _ _ _ _, HV.out⟩
 | some p =>
   obtain ⟨s, r⟩ := p
   have CL : Hid (Calls Try.prog 42 #[.slice A l.length cap] W0 (LdYes s r W0)) := Lib.hid (C.mono fun e w' h => h.1 s r hl2)
   have hrl := (ldT_len hl2).1
   have hrs := lst_mem hl2 hs
   have HV0 : Hid (mkCounters l = csT s r) := Lib.hid (mkCounters_some hl2)
   clear C hl2
   cases r with
   | nil =>
     have HV := HV0
     go_enter Try.func65, Try.ntmps65
     go_upto_region 1 with fail
     rw [HW.out]
     clear HW
     go_wp2_with (go_at_call 42; ((with_reducible refine (CL.out).mono ?_); rintro e w1 ⟨A1, c1, rfl, hc1, T1, b1⟩; have HB := Lib.hid (below_next HB.out b1); have HK := Lib.hid (below_block b1 HK.out); obtain ⟨⟨r0, r1, r2, r3, r4⟩, rz⟩ := five_cells HK.out; clear b1 T1))
     exact bodyPost_ret (v := .tuple #[itV (0, ⟨#[]⟩, ⟨#[]⟩, 0, 0), .bool false]) (by simp [results, Try.results65, go_sem, r0, r1, r2, r3, r4]) rfl ⟨(0, ⟨#[]⟩, ⟨#[]⟩, 0, 0), false, rfl, below_set5 HB.out (Nat.le_refl _) _ _ _ _ _, HV.out⟩
   | cons y q =>
     obtain ⟨ky, sy, ny⟩ := y
     have hql : q.length <= 998 := by simp at hrl; omega
     have CA : Hid (∀ W A c M, Ts W W.heap.size A q -> MapS W M (numT styles) -> Calls Try.prog 83 #[.slice A q.length c, .map (some M), .int .i64 0] W (LaIs (lst q styles 0) W)) := Lib.hid fun W A c M hT hM => clast_any q styles 0 (by omega) (fun x hx => hrs x (List.mem_cons_of_mem _ hx)) A c M W hT hM
     have HV1 : Hid (mkCounters l = if ky = 6 then (lst q styles 0).map (fun n => ((3 : Int), sy, s, n, (0 : Int))) else none) := HV0
     have CL1 : Hid (Calls Try.prog 42 #[.slice A l.length cap] W0 (fun e w' => ∃ (b off c : Nat), e = .returned (.tuple #[.string s, .slice (some ⟨b, off, none⟩) (q.length + 1) c, .bool true]) /\ q.length + 1 <= c /\ b < w'.heap.size /\ w'.cell? ⟨b, off, none⟩ = some (.int .i64 ky) /\ w'.cell? ⟨b, off + 1, none⟩ = some (.string sy) /\ Ts w' w'.heap.size (some ⟨b, off + 3, none⟩) q /\ Below W0.heap.size W0 w')) := Lib.hid (CL.out.mono fun e w' hh => by
      obtain ⟨A1, c1, he, hc1, hT, hb⟩ := hh
      obtain ⟨b, off, rfl, hbb, hp⟩ := hT (by simp)
      obtain ⟨q0, q1, _⟩ := hp 0 (by simp)
      exact ⟨b, off, c1, he, hc1, hbb, q0, q1, ts_cdr hT, hb⟩)
     have e0 : (((q.length + 1 : Nat) : Int) == 0) = false := beq_false_of_ne (by omega)
     have hqpos : ¬ ((q.length : Int) + 1 = 0) := by omega
     clear HV0 CL hrs
     by_cases h6 : ky = 6
     ·have e6 : (ky != 6) = false := by simp [h6]
      rw [if_pos h6] at HV1
      clear h6
      go_enter Try.func65, Try.ntmps65
      go_upto_region 1 with fail
      rw [HW.out]
      clear HW
      go_upto_region 4 with (go_at_call 42; ((with_reducible refine (CL1.out).mono ?_); rintro e w1 ⟨b, off, c1, rfl, hc1, hb, q0, q1, T1, b1⟩; have HB := Lib.hid (below_next HB.out b1); have HK := Lib.hid (below_block b1 HK.out); have HT := Lib.hid T1; obtain ⟨⟨r0, r1, r2, r3, r4⟩, rz⟩ := five_cells HK.out; clear b1 T1))
      by_cases hcc : c1 = 1
      ·have hq0 : q.length = 0 := by omega
       have hq : q = [] := List.eq_nil_of_length_eq_zero hq0
       subst hq
       subst hcc
       clear hq0
       have CA' : Hid (∀ W A c M, MapS W M (numT styles) -> Calls Try.prog 83 #[.slice A 0 c, .map (some M), .int .i64 0] W (LaIs (lst [] styles 0) W)) := Lib.hid fun W A c M hM => CA.out W A c M (fun h => absurd h (by simp)) hM
       clear CA
       generalize lst [] styles 0 = lo at *
       go_region_with ((first | (go_at_call 57; ((with_reducible refine (cstyles_any _).mono ?_); rintro e w2 ⟨M, rfl, hM, b2, _⟩; (first | have HB := Lib.hid (below_next HB.out b2) | have HB := Lib.hid (below_next HB.out.drew b2)); (first | have HK := Lib.hid (below_block b2 HK.out) | have HK := Lib.hid (below_block (w := w1.drew) b2 HK.out)); have HM := Lib.hid hM; have q1 := (b2.cell (p := ⟨b, off + 1, none⟩) hb).trans q1; have hb := Nat.lt_of_lt_of_le hb b2.size; have HT2 := Lib.hid (HT.out.keep (w' := w2) fun p hp => b2.cell hp); have HT := Lib.hid (Ts.more HT2.out b2.size); clear b2 hM HT2)) | (go_at_call 83; ((with_reducible refine (CA'.out _ _ _ _ HM.out).mono ?_); rintro e w3 ⟨n, bb, rfl, b3, hb0, ho⟩; (first | have HB := Lib.hid (below_next HB.out b3) | have HB := Lib.hid (below_next HB.out.drew b3)); (first | have HK := Lib.hid (below_block b3 HK.out) | have HK := Lib.hid (below_block (w := w2.drew) b3 HK.out)); obtain ⟨⟨r0, r1, r2, r3, r4⟩, rz⟩ := five_cells HK.out; have q1 := (b3.cell (p := ⟨b, off + 1, none⟩) hb).trans q1; have HO := Lib.hid ho; clear b3 ho))))
       all_goals cases bb
       all_goals first
        | (have HV : Hid (mkCounters l = none) := Lib.hid (by rw [HV1.out, HO.out]; rfl)
           go_wp2_with fail
           exact bodyPost_ret (v := .tuple #[itV (0, ⟨#[]⟩, ⟨#[]⟩, 0, 0), .bool false]) (by simp [results, Try.results65, go_sem, r0, r1, r2, r3, r4]) rfl ⟨(0, ⟨#[]⟩, ⟨#[]⟩, 0, 0), false, rfl, below_set5 HB.out (Nat.le_refl _) _ _ _ _ _, HV.out⟩)
        | (have HV : Hid (mkCounters l = some (3, sy, s, n, 0)) := Lib.hid (by rw [HV1.out, HO.out]; rfl)
           go_wp2_with fail
           exact bodyPost_ret (v := .tuple #[itV (3, sy, s, n, 0), .bool true]) (by simp [results, Try.results65, go_sem, r0, r1, r2, r3, r4]) rfl ⟨(3, sy, s, n, 0), true, rfl, below_set5 HB.out (Nat.le_refl _) _ _ _ _ _, HV.out⟩)
      ·generalize lst q styles 0 = lo at *
       go_region_with ((first | (go_at_call 57; ((with_reducible refine (cstyles_any _).mono ?_); rintro e w2 ⟨M, rfl, hM, b2, _⟩; (first | have HB := Lib.hid (below_next HB.out b2) | have HB := Lib.hid (below_next HB.out.drew b2)); (first | have HK := Lib.hid (below_block b2 HK.out) | have HK := Lib.hid (below_block (w := w1.drew) b2 HK.out)); have HM := Lib.hid hM; have q1 := (b2.cell (p := ⟨b, off + 1, none⟩) hb).trans q1; have hb := Nat.lt_of_lt_of_le hb b2.size; have HT2 := Lib.hid (HT.out.keep (w' := w2) fun p hp => b2.cell hp); have HT := Lib.hid (Ts.more HT2.out b2.size); clear b2 hM HT2)) | (go_at_call 83; ((with_reducible refine (CA.out _ _ _ _ HT.out HM.out).mono ?_); rintro e w3 ⟨n, bb, rfl, b3, hb0, ho⟩; (first | have HB := Lib.hid (below_next HB.out b3) | have HB := Lib.hid (below_next HB.out.drew b3)); (first | have HK := Lib.hid (below_block b3 HK.out) | have HK := Lib.hid (below_block (w := w2.drew) b3 HK.out)); obtain ⟨⟨r0, r1, r2, r3, r4⟩, rz⟩ := five_cells HK.out; have q1 := (b3.cell (p := ⟨b, off + 1, none⟩) hb).trans q1; have HO := Lib.hid ho; clear b3 ho))))
       all_goals cases bb
       all_goals first
        | (have HV : Hid (mkCounters l = none) := Lib.hid (by rw [HV1.out, HO.out]; rfl)
           go_wp2_with fail
           exact bodyPost_ret (v := .tuple #[itV (0, ⟨#[]⟩, ⟨#[]⟩, 0, 0), .bool false]) (by simp [results, Try.results65, go_sem, r0, r1, r2, r3, r4]) rfl ⟨(0, ⟨#[]⟩, ⟨#[]⟩, 0, 0), false, rfl, below_set5 HB.out (Nat.le_refl _) _ _ _ _ _, HV.out⟩)
        | (have HV : Hid (mkCounters l = some (3, sy, s, n, 0)) := Lib.hid (by rw [HV1.out, HO.out]; rfl)
           go_wp2_with fail
           exact bodyPost_ret (v := .tuple #[itV (3, sy, s, n, 0), .bool true]) (by simp [results, Try.results65, go_sem, r0, r1, r2, r3, r4]) rfl ⟨(3, sy, s, n, 0), true, rfl, below_set5 HB.out (Nat.le_refl _) _ _ _ _ _, HV.out⟩)
     ·have e6 : (ky != 6) = true := bne_iff_ne.2 h6
      rw [if_neg h6] at HV1
      have HV := HV1
      clear h6
      go_enter Try.func65, Try.ntmps65
      go_upto_region 1 with fail
      rw [HW.out]
      clear HW
      go_wp2_with (go_at_call 42; ((with_reducible refine (CL1.out).mono ?_); rintro e w1 ⟨b, off, c1, rfl, hc1, hb, q0, q1, T1, b1⟩; have HB := Lib.hid (below_next HB.out b1); have HK := Lib.hid (below_block b1 HK.out); have HT := Lib.hid T1; obtain ⟨⟨r0, r1, r2, r3, r4⟩, rz⟩ := five_cells HK.out; clear b1 T1))
      exact bodyPost_ret (v := .tuple #[itV (0, ⟨#[]⟩, ⟨#[]⟩, 0, 0), .bool false]) (by simp [results, Try.results65, go_sem, r0, r1, r2, r3, r4]) rfl ⟨(0, ⟨#[]⟩, ⟨#[]⟩, 0, 0), false, rfl, below_set5 HB.out (Nat.le_refl _) _ _ _ _ _, HV.out⟩
end Go.Proofs.Ytaofkaehhikfaaa
namespace Go.Proofs.Ytaofkaehhikfaaa
open Go.RowKit Vl
namespace Vl
section
variable {P : Program} {w w1 : World} {M : Nat} {l : List (ByteArray × Value)}
def Oth (M : Nat) (w w' : World) : Prop := w'.heap.size = w.heap.size /\ ∀ i o, i ≠ M -> w'.cell? ⟨i, o, none⟩ = w.cell? ⟨i, o, none⟩
theorem MapS.insert2 {t k e : TypeId} (h : MapS w M l) (ht : P.underlying t = some (.map k e)) (hk : P.underlying k = some .string) (s : ByteArray) (v : Value) (hn : look l s = none) :
 ∃ w', (Instr.mapUpdate t (.map (some M)) (.string s) v).run P w = .ok () w' /\ MapS w' M (l ++ [(s, v)]) /\ (∀ B a, B <= M -> Below B a w -> Below B a w') /\ Oth M w w' := by
 obtain ⟨es, clock, hb, he⟩ := h
 obtain ⟨j, hj⟩ := findKey_str hk w s he
 rw [hn] at hj
 refine ⟨ChangeMaps.setBlock w M (.map (es.push ⟨.string s, v, clock⟩) (clock + 1)), ?_, ⟨_, _, ChangeMaps.heap_setBlock_same hb _, ?_⟩, ?_, ?_, ?_⟩
 ·simp [Instr.mapUpdate, run_underlying ht, MapKept.run_getObj_map hb, checkKey_str hk, hj, MapKept.run_setObj_map _ hb, Result.andThen, ChangeMaps.setBlock]
 ·rw [Array.toList_push, List.map_append, he, List.map_append]; rfl
 ·intro B a hB hb'
  exact hb'.trans ⟨rfl, rfl, rfl, by simp [ChangeMaps.setBlock], fun i hi => ChangeMaps.heap_setBlock_other hb _ (by omega)⟩
 ·simp [ChangeMaps.setBlock]
 ·intro i o hi
  have hh := ChangeMaps.heap_setBlock_other (w := w) hb (.map (es.push ⟨.string s, v, clock⟩) (clock + 1)) hi
  simp only [World.cell?, hh]
theorem wpList_insK {ops : Array Oper} {rest : List Oper} {o : Oper} {a : Act} {Q : Exit -> Act -> World -> Prop} (hg : o.guard = none) (hd : o.dst = none) (m x v : Operand) (t : TypeId) (hop : o.op = Op.insert t m x v)
 (k e : TypeId) (ht : P.underlying t = some (.map k e)) (hk : P.underlying k = some .string) (M : Nat) (l : List (ByteArray × Value)) (hm : a.eval m = .map (some M)) (h : MapS w M l) (s : ByteArray) (hx : a.eval x = .string s) (y : Value) (hy : a.eval v = y)
 (hn : look l s = none) (hK : ∀ w', MapS w' M (l ++ [(s, y)]) -> (∀ B b, B <= M -> Below B b w -> Below B b w') -> Oth M w w' -> wpList P ops Q rest a w') : wpList P ops Q (o :: rest) a w := by
 refine wpList_plain hg fun K' hK' => ?_
 obtain ⟨w', hrun, h1, h2, h3⟩ := h.insert2 ht hk s y hn
 unfold Oper.wp
 simp [execOp, hop, hm, hx, hy, hrun, Result.andThen, Oper.upon, hd]
 exact hK' _ _ (hK w' h1 h2 h3)
end
end Vl
def Kc (M kd b : Nat) (w : World) : Prop := b ≠ M /\ b < w.heap.size /\ w.cell? ⟨b, 0, none⟩ = some (.int .i64 kd)
theorem Kc.next {M kd b : Nat} {w w' : World} (h : Kc M kd b w) (hb : Below w.heap.size w w') : Kc M kd b w' := ⟨h.1, Nat.lt_of_lt_of_le h.2.1 hb.size, (hb.cell (p := ⟨b, 0, none⟩) h.2.1).trans h.2.2⟩
theorem Kc.oth {M kd b : Nat} {w w' : World} (h : Kc M kd b w) (ho : Oth M w w') : Kc M kd b w' := ⟨h.1, by rw [ho.1]; exact h.2.1, (ho.2 b 0 h.1).trans h.2.2⟩
abbrev fnV (i : Nat) : Value := .func (.func i) #[] #[]
abbrev clV (b : Nat) : Value := .func (.func 84) #[] #[.pointer (some ⟨b, 0, none⟩)]
def mkT (b1 b2 : Nat) : List (ByteArray × Value) := [(wCounter, fnV 64), (wCounters, fnV 65), (wString, clV b1), (wElement, clV b2), (wAttr, fnV 67)]
structure Kn (own : Bool) (M b1 b2 : Nat) (w : World) : Prop where
 map : MapS w M (mkT b1 b2 ++ if own = true then [(wContent, fnV 44)] else [])
 l1 : b1 < w.heap.size
 l2 : b2 < w.heap.size
 k1 : w.cell? ⟨b1, 0, none⟩ = some (.int .i64 4)
 k2 : w.cell? ⟨b2, 0, none⟩ = some (.int .i64 5)
theorem Kn.next {own : Bool} {M b1 b2 : Nat} {w w' : World} (h : Kn own M b1 b2 w) (hb : Below w.heap.size w w') : Kn own M b1 b2 w' :=
 ⟨h.map.next hb, Nat.lt_of_lt_of_le h.l1 hb.size, Nat.lt_of_lt_of_le h.l2 hb.size, (hb.cell (p := ⟨b1, 0, none⟩) h.l1).trans h.k1, (hb.cell (p := ⟨b2, 0, none⟩) h.l2).trans h.k2⟩
def MdIs (kd : Int) (w : World) (e : Ending) (w' : World) : Prop := ∃ b, e = .returned (clV b) /\ w.heap.size <= b /\ b < w'.heap.size /\ Below w.heap.size w w' /\ w'.cell? ⟨b, 0, none⟩ = some (.int .i64 kd)
theorem cmaker_any (kd : Int) (w : World) : Calls Try.prog 66 #[.int .i64 kd] w (MdIs kd w) := by
 go_enter Try.func66, Try.ntmps66
 go_wp2_with fail
 go_ret
 exact ⟨w.heap.size, rfl, Nat.le_refl _, by simp, (Below.refl _ _).alloc (Nat.le_refl _) _, by rw [World.cell?, heap_alloc_new]; rfl⟩
def KnIs (own : Bool) (w : World) (e : Ending) (w' : World) : Prop := ∃ M b1 b2, e = .returned (.map (some M)) /\ Kn own M b1 b2 w' /\ Below w.heap.size w w' /\ w.heap.size <= M
theorem cfunctions_any (w : World) : Calls Try.prog 37 #[] w (KnIs false w) := by
 have hmm := @run_makeMap Try.prog
 have HM := Lib.hid (MapS.made w)
 have HB : Hid (Below w.heap.size w (w.alloc (.map #[] 0))) := Lib.hid ((Below.refl _ _).alloc (Nat.le_refl _) _)
 have C1 : Hid (∀ w, Calls Try.prog 66 #[.int .i64 4] w (MdIs 4 w)) := Lib.hid (cmaker_any 4)
 have C2 : Hid (∀ w, Calls Try.prog 66 #[.int .i64 5] w (MdIs 5 w)) := Lib.hid (cmaker_any 5)
 go_enter Try.func37, Try.ntmps37
 go_wp2_with (first | (refine wpList_insK rfl rfl _ _ _ _ rfl 9 80 Try.underlying64 Try.underlying9 w.heap.size _ rfl HM.out _ rfl _ rfl (by rfl) ?_; intro w' h1 h2 h3; have HM := Lib.hid h1; have HB := Lib.hid (h2 _ _ (Nat.le_refl _) HB.out); have HK2 := Lib.hid (HK2.out.oth h3); have HK1 := Lib.hid (HK1.out.oth h3); clear h1 h2 h3) | (refine wpList_insK rfl rfl _ _ _ _ rfl 9 80 Try.underlying64 Try.underlying9 w.heap.size _ rfl HM.out _ rfl _ rfl (by rfl) ?_; intro w' h1 h2 h3; have HM := Lib.hid h1; have HB := Lib.hid (h2 _ _ (Nat.le_refl _) HB.out); have HK1 := Lib.hid (HK1.out.oth h3); clear h1 h2 h3) | (refine wpList_insK rfl rfl _ _ _ _ rfl 9 80 Try.underlying64 Try.underlying9 w.heap.size _ rfl HM.out _ rfl _ rfl (by rfl) ?_; intro w' h1 h2 h3; have HM := Lib.hid h1; have HB := Lib.hid (h2 _ _ (Nat.le_refl _) HB.out); clear h1 h2 h3) | (go_at_call 66; ((with_reducible refine (C1.out _).mono ?_); rintro e w1 ⟨b1, rfl, hb1, hl1, bb, hk1⟩; have HK1 : Hid (Kc w.heap.size 4 b1 w1) := Lib.hid ⟨by have := HM.out.lt; omega, hl1, hk1⟩; have HB := Lib.hid (below_next HB.out bb); have HM := Lib.hid (HM.out.next bb); clear bb hk1 hl1 hb1)) | (go_at_call 66; ((with_reducible refine (C2.out _).mono ?_); rintro e w1 ⟨b2, rfl, hb1, hl1, bb, hk1⟩; have HK2 : Hid (Kc w.heap.size 5 b2 w1) := Lib.hid ⟨by have := HM.out.lt; omega, hl1, hk1⟩; have HK1 := Lib.hid (HK1.out.next bb); have HB := Lib.hid (below_next HB.out bb); have HM := Lib.hid (HM.out.next bb); clear bb hk1 hl1 hb1)))
 go_ret
 exact ⟨w.heap.size, b1, b2, rfl, ⟨HM.out, HK1.out.2.1, HK2.out.2.1, HK1.out.2.2, HK2.out.2.2⟩, HB.out, Nat.le_refl _⟩
end Go.Proofs.Ytaofkaehhikfaaa
