/-
  The walk of package value's read.
-/
import Derived.Test.YtaofkaehhikfaaaGac
import Derived.Test.YtaofkaehhikfaaaGaa
import Derived.Test.YtaofkaehhikfaaaGab
import Derived.Lib.Strings
import Derived.Laws.IdiomStrings
import Derived.Laws.BytesArg
import Derived.Maps.AppendAt
import Derived.Lib.RuneBytes
import Derived.Deep.Cut
import Derived.Deep.CutRange
import Derived.Deep.DeepCutAuto
import Derived.LoopTactic
import Derived.IntWalk
import Derived.BigGuard
import Derived.Maps.Own
import Derived.Maps.OwnOps
import Derived.Carry
set_option maxHeartbeats 16000000
set_option maxRecDepth 100000
namespace Go.Proofs.Ytaofkaehhikfaaa
open Go.RowKit Vl
def RdIs (L : List Tk.Tok) (w : World) (e : Ending) (w' : World) : Prop :=
 ∃ (A C : Option Addr) (c d : Nat), e = .returned (.agg #[.slice A L.length c, .slice C L.length d]) /\ L.length <= c /\ L.length <= d /\ Ts w' w'.heap.size A L /\ Bs w' w'.heap.size .i64 C (Ns.ends L) /\ Below w.heap.size w w'
def HiB (lo : Nat) (A : Option Addr) (n : Nat) : Prop := 0 < n -> ∀ b off, A = some ⟨b, off, none⟩ -> lo <= b
theorem Ts.set_low {w : World} {B g i : Nat} {A : Option Addr} {ts : List Tk.Tok} {v : Value} (h : Ts w B A ts) (hA : HiB (g + 1) A ts.length) : Ts (w.setCell ⟨g, i, none⟩ v) B A ts := fun hl => by
 obtain ⟨b, off, e, hb, hc⟩ := h hl
 have hg := hA hl b off e
 have far : ∀ o, (w.setCell ⟨g, i, none⟩ v).cell? ⟨b, o, none⟩ = w.cell? ⟨b, o, none⟩ := fun o => World.cell?_setCell_other w _ _ v (fun e => by injection e with e; omega)
 refine ⟨b, off, e, hb, fun j hj => ?_⟩
 rw [far, far, far]
 exact hc j hj
theorem Bs.set_low {w : World} {B g i : Nat} {A : Option Addr} {k : IntKind} {l : List Int} {v : Value} (h : Bs w B k A l) (hA : HiB (g + 1) A l.length) : Bs (w.setCell ⟨g, i, none⟩ v) B k A l := fun hl => by
 obtain ⟨b, off, e, hb, hc⟩ := h hl
 have hg := hA hl b off e
 refine ⟨b, off, e, hb, fun j hj => ?_⟩
 rw [World.cell?_setCell_other w _ _ v (fun e => by injection e with e; omega)]
 exact hc j hj
def EndsN (es : List Int) (w : World) (e : Ending) (w' : World) : Prop :=
 ∃ (A : Option Addr) (cap : Nat), e = .returned (.tuple #[.slice A es.length cap, .int .i64 0]) /\ es.length <= cap /\ Bs w' w'.heap.size .i64 A es /\ Below w.heap.size w w' /\ HiB w.heap.size A es.length
theorem ends_new {ts : List Tk.Tok} {w : World} {e : Ending} {w' : World} (h : EndsOk ts w e w') : EndsN (Ns.ends ts) w e w' := by
 obtain ⟨v, rfl, ho, hb⟩ := h
 obtain ⟨A, cap, rfl, hc, hB⟩ := own_form ho
 refine ⟨A, cap, rfl, hc, hB, hb, fun h0 b off hA => ?_⟩
 obtain ⟨g, c, hv, hg, _⟩ := ho.form h0
 injection hv with hv
 rw [hv] at hA
 injection hA with hA
 injection hA with hA
 omega
def Del (ts : List Tk.Tok) (w0 : World) (e : Ending) (w' : World) : Prop :=
 ∃ (A : Option Addr) (c : Nat), e = .returned (.slice A (F ts).length c) /\ (F ts).length <= c /\ Ts w' w'.heap.size A (F ts) /\ Below w0.heap.size w0 w' /\ HiB w0.heap.size A (F ts).length
theorem cdel_nil (c : Nat) (w : World) : Calls Try.prog 59 #[.slice none 0 c, isSpF] w (fun e w' => e = .returned (.slice none 0 c) /\ Below w.heap.size w w') := by
 have CX : Hid (Calls Try.prog 80 #[.slice none 0 c, isSpF] w (fun e w' => e = .returned (.int .i64 (-1)) /\ Below w.heap.size w w')) := Lib.hid ((cindex_any [] (by simp) none c w (fun h => by simp at h)).mono fun e w' ⟨n, he, hb, hx⟩ => by
  rcases hx with ⟨rfl, _⟩ | ⟨k, _, hk, _⟩
  ·exact ⟨he, hb⟩
  ·simp at hk)
 go_enter Try.func59, Try.ntmps59
 go_wp2_with (go_at_call 80; ((with_reducible refine (CX.out).mono ?_); rintro e w1 ⟨rfl, b1⟩; have HB1 := Lib.hid b1; clear b1))
 go_ret
 exact ⟨rfl, HB1.out⟩
theorem cdel_any (ts : List Tk.Tok) (hm : ts.length <= 1000) (w0 W : World) (v : Value) (h : Ow 36 3 w0 v ts.length (Tk.cells ts) W) :
 Calls Try.prog 59 #[v, isSpF] W (Del ts w0) := by
 rcases h.own.2 with ⟨rfl, h0⟩ | ⟨g, cap, cur, rfl, hg, hh, hc, _⟩
 ·have hn : ts = [] := List.eq_nil_of_length_eq_zero h0
  subst hn
  exact (cdel_nil 0 W).mono fun e w' ⟨he, hb⟩ => ⟨none, 0, he, Nat.le_refl _, fun h => by simp [F] at h, below_next h.bel (hb.mono (Nat.le_refl _)), fun h => by simp [F] at h⟩
 ·have hlt : g < W.heap.size := (Array.getElem?_eq_some_iff.1 hh).1
  exact (cdelete_any ts hm w0.heap.size g cap hc W hg hlt (Rw.of_ow h)).mono fun e w' ⟨c, he, hc2, hR, hsz, hb⟩ => ⟨_, c, he, hc2, hR.ts (by omega), hb w0 h.bel, fun _ b off hA => by injection hA with hA; injection hA with hA; omega⟩
theorem cread_any (v : List Tk.Tok) (hm : v.length <= 1000) (A : Option Addr) (cap : Nat) (w : World) (h : Ts w w.heap.size A v) :
 Calls Try.prog 34 #[.slice A v.length cap] w (RdIs (rd v) w) := by
 obtain ⟨W0, hW⟩ : ∃ W0, W0 = w.alloc (.cells #[.slice none 0 0, .slice none 0 0] 59) := ⟨_, rfl⟩
 have hb0 : Below w.heap.size w W0 := by rw [hW]; exact (Below.refl _ _).alloc (Nat.le_refl _) _
 have k0 : W0.heap[w.heap.size]? = some (.cells #[.slice none 0 0, .slice none 0 0] 59 (0, 0)) := by rw [hW]; exact heap_alloc_new w _
 have HB0 := Lib.hid hb0
 have HK0 := Lib.hid k0
 have HW := Lib.hid hW.symm
 have HWz := Lib.hid hW.symm
 have CC : Hid (Calls Try.prog 60 #[.slice A v.length cap] W0 (ClIs v W0)) := Lib.hid (cclone_any v hm A cap W0 (h.next hb0))
 have CD : Hid (∀ W u, Ow 36 3 W0 u v.length (Tk.cells v) W -> Calls Try.prog 59 #[u, isSpF] W (Del v W0)) := Lib.hid fun W u hO => cdel_any v hm W0 W u hO
 have CE : Hid (∀ W C c, (F v).length <= c -> Ts W W.heap.size C (F v) -> Calls Try.prog 62 #[.slice C (F v).length c] W (EndsIs (F v) W)) := Lib.hid fun W C c hc hT => nends_code (F v) (by have := F_len v; omega) C c W hT
 clear hb0 k0 hW h
 by_cases hd : Ns.deep (F v)
 ·have hv : rd v = [] := by unfold rd; rw [if_pos hd]
  rw [hv]
  have CE2 : Hid (∀ W C c, (F v).length <= c -> Ts W W.heap.size C (F v) -> Calls Try.prog 62 #[.slice C (F v).length c] W (EndsBad W)) := Lib.hid fun W C c hc hT => (CE.out W C c hc hT).mono fun e w' h => h.2 hd
  clear CE hd hv
  go_enter Try.func34, Try.ntmps34
  go_upto_region 1 with fail
  rw [HW.out]
  clear HW
  go_wp2_with (first | (go_at_call 60; ((with_reducible refine (CC.out).mono ?_); rintro e w1 ⟨u, rfl, h1⟩; have HO := Lib.hid h1; clear h1)) | (go_at_call 59; ((with_reducible refine (CD.out _ _ HO.out).mono ?_); rintro e w2 ⟨A2, c2, rfl, hc2, T2, b2, h2⟩; have HB2 := Lib.hid b2; have HT2 := Lib.hid T2; clear b2 T2)) | (go_at_call 62; ((with_reducible refine (CE2.out _ _ _ hc2 HT2.out).mono ?_); rintro e w3 ⟨rfl, b3⟩; have HB3 := Lib.hid (below_next HB2.out b3); have HK3 := below_block HB3.out HK0.out; have q0 : w3.cell? ⟨w.heap.size, 0, none⟩ = some (.slice none 0 0) := (by simp [World.cell?, HK3]); have q1 : w3.cell? ⟨w.heap.size, 1, none⟩ = some (.slice none 0 0) := (by simp [World.cell?, HK3]); have qf : ∀ o, w3.frozen? ⟨w.heap.size, o, none⟩ = false := fun o => (by simp [World.frozen?, HK3]); clear b3 HK3)))
  exact bodyPost_ret (v := .agg #[.slice none 0 0, .slice none 0 0]) (by simp [results, Try.results34, go_sem, q0, q1]) rfl ⟨none, none, 0, 0, rfl, Nat.le_refl _, Nat.le_refl _, fun h => by simp at h, fun h => by simp [Ns.ends_len] at h, ((below_next HB0.out HB3.out).setCell (p := ⟨w.heap.size, 0, none⟩) (Nat.le_refl _) _).setCell (p := ⟨w.heap.size, 1, none⟩) (Nat.le_refl _) _⟩
 ·have hv : rd v = F v := by unfold rd; rw [if_neg hd]
  rw [hv]
  have CE2 : Hid (∀ W C c, (F v).length <= c -> Ts W W.heap.size C (F v) -> Calls Try.prog 62 #[.slice C (F v).length c] W (EndsN (Ns.ends (F v)) W)) := Lib.hid fun W C c hc hT => (CE.out W C c hc hT).mono fun e w' h => ends_new (h.1 hd)
  have HEL := Lib.hid (Ns.ends_len (F v))
  clear CE hd hv
  go_enter Try.func34, Try.ntmps34
  go_upto_region 1 with fail
  rw [HW.out]
  clear HW
  go_wp2_with (first | (go_at_call 60; ((with_reducible refine (CC.out).mono ?_); rintro e w1 ⟨u, rfl, h1⟩; have HO := Lib.hid h1; clear h1)) | (go_at_call 59; ((with_reducible refine (CD.out _ _ HO.out).mono ?_); rintro e w2 ⟨A2, c2, rfl, hc2, T2, b2, h2⟩; have HB2 := Lib.hid b2; have HT2 := Lib.hid T2; clear b2 T2)) | (go_at_call 62; ((with_reducible refine (CE2.out _ _ _ hc2 HT2.out).mono ?_); rintro e w3 ⟨C3, c3, rfl, hc3, B3, b3, h3⟩; have HB3 := Lib.hid (below_next HB2.out b3); have HT3 := Lib.hid (HT2.out.next b3); have HS3 := Lib.hid B3; have HK3 := below_block HB3.out HK0.out; have q0 : w3.cell? ⟨w.heap.size, 0, none⟩ = some (.slice none 0 0) := (by simp [World.cell?, HK3]); have q1 : w3.cell? ⟨w.heap.size, 1, none⟩ = some (.slice none 0 0) := (by simp [World.cell?, HK3]); have qf : ∀ o, w3.frozen? ⟨w.heap.size, o, none⟩ = false := fun o => (by simp [World.frozen?, HK3]); clear b3 B3 HK3)))
  have hz0 : W0.heap.size = w.heap.size + 1 := by
   have := congrArg (fun W => W.heap.size) HWz.out
   simpa using this.symm
  have hz2 : w.heap.size + 1 <= w2.heap.size := by have := HB2.out.size; omega
  have hA : HiB (w.heap.size + 1) A2 (F v).length := fun h0 b off e => by have := h2 h0 b off e; omega
  have hC : HiB (w.heap.size + 1) C3 (Ns.ends (F v)).length := fun h0 b off e => by have := h3 h0 b off e; omega
  have hsz : ((w3.setCell ⟨w.heap.size, 0, none⟩ (.slice A2 (F v).length c2)).setCell ⟨w.heap.size, 1, none⟩ (.slice C3 (Ns.ends (F v)).length c3)).heap.size = w3.heap.size := by simp [World.setCell]
  exact bodyPost_ret (v := .agg #[.slice A2 (F v).length c2, .slice C3 (Ns.ends (F v)).length c3]) (by simp [results, Try.results34, go_sem, q0, q1]) rfl ⟨A2, C3, c2, c3, by rw [HEL.out], hc2, by rw [<- HEL.out]; exact hc3, by rw [hsz]; exact (HT3.out.set_low hA).set_low hA, by rw [hsz]; exact (HS3.out.set_low hC).set_low hC, ((below_next HB0.out HB3.out).setCell (p := ⟨w.heap.size, 0, none⟩) (Nat.le_refl _) _).setCell (p := ⟨w.heap.size, 1, none⟩) (Nat.le_refl _) _⟩
end Go.Proofs.Ytaofkaehhikfaaa
namespace Go.Proofs.Ytaofkaehhikfaaa
open Go.RowKit
def LowAt (w : World) (s : ByteArray) (v10 : Value) (wr : World) : Prop :=
 ∃ k : Nat, k <= s.size /\ v10 = .int .i64 k /\ Hid (∀ j, j < s.size -> wr.cell? ⟨w.heap.size, j, none⟩ = some (.int .u8 (Ru.g (Ru.part (Ru.bs s) k) j))) /\ Hid (∀ j, j < s.size -> wr.frozen? ⟨w.heap.size, j, none⟩ = false) /\ Hid (Below w.heap.size w wr)
theorem lower_any (s : ByteArray) (w : World) (hm : s.size <= 90000) :
 Calls Try.prog 47 #[.string s] w fun e w' => e = .returned (.string (Ru.lowS s)) /\ Below w.heap.size w w' := by
 obtain ⟨C, w0, hconv, hc, hz, hb, hC⟩ := bytes_of s w
 have HC := Lib.hid hc
 have HZ := Lib.hid hz
 have HB := Lib.hid hb
 clear hc hz hb
 go_enter Try.func47, Try.ntmps47
 go_wp2_with fail
 clear hconv
 go_loopw [10] (fun v10 wr => LowAt w s v10 wr) (fun v10 _ => s.size - (RowKit.intOf v10).toNat)
 case atStart => exact ⟨0, Nat.zero_le _, rfl, Lib.hid (fun j hj => by rw [Ru.part_g _ _ _ (Nat.zero_le _), if_neg (by omega)]; exact HC.out j hj), HZ, HB⟩
 case round =>
  obtain ⟨k, hk, rfl, hcs, hzs, hbel⟩ := hrel
  have hl : Hid ((Ru.bs s).length = s.size) := Lib.hid (Ru.bs_len s)
  clear HC HZ HB
  by_cases hlt : k < s.size
  ·have hcell := hcs.out k hlt
   have hfz := hzs.out k hlt
   rw [Ru.part_g _ _ _ (by rw [hl.out]; omega), if_neg (by omega)] at hcell
   obtain ⟨y1, y2⟩ := (Ru.bs_by s).at_ k
   have hnext : Hid (∀ j, j < s.size -> Ru.g (Ru.part (Ru.bs s) (k + 1)) j = if j = k then Ru.lowI (Ru.g (Ru.bs s) k) else Ru.g (Ru.part (Ru.bs s) k) j) := Lib.hid fun j hj => by
    rw [Ru.part_g _ _ _ (by rw [hl.out]; omega), Ru.part_g _ _ _ (by rw [hl.out]; omega)]
    by_cases e : j = k
    ·subst e; rw [if_pos (by omega), if_pos rfl]
    ·rw [if_neg e]
     by_cases h2 : j < k
     ·rw [if_pos (by omega), if_pos h2]
     ·rw [if_neg (by omega), if_neg h2]
   generalize Ru.g (Ru.bs s) k = x at *
   by_cases u1 : 65 <= x
   ·by_cases u2 : x <= 90
    ·have e32 : Hid (x - 65 + 97 = Ru.lowI x) := Lib.hid (by unfold Ru.lowI; rw [if_pos ⟨u1, u2⟩]; omega)
     go_wp2_with fail
     go_roundw
     case rel => exact ⟨k + 1, by omega, by go_num, Lib.hid (fun j hj => by
      rw [hnext.out j hj, <- e32.out]
      by_cases e : j = k
      ·subst e; rw [if_pos rfl]; exact World.cell?_setCell_same _ _ _ hcell
      ·rw [if_neg e, World.cell?_setCell_other _ _ _ _ (fun h => e (by injection h with _ h2; exact h2.symm))]; exact hcs.out j hj), Lib.hid (fun j hj => by rw [World.frozen?_setCell]; exact hzs.out j hj), Lib.hid (hbel.out.setCell (Nat.le_refl _) _)⟩
     case measure => simp [RowKit.intOf]; omega
    ·have e32 : Hid (Ru.lowI x = x) := Lib.hid (by unfold Ru.lowI; rw [if_neg (by omega)])
     go_wp2_with fail
     go_roundw
     case rel => exact ⟨k + 1, by omega, by go_num, Lib.hid (fun j hj => by
      rw [hnext.out j hj, e32.out]
      by_cases e : j = k
      ·subst e; rw [if_pos rfl]; exact hcell
      ·rw [if_neg e]; exact hcs.out j hj), hzs, hbel⟩
     case measure => simp [RowKit.intOf]; omega
   ·have e32 : Hid (Ru.lowI x = x) := Lib.hid (by unfold Ru.lowI; rw [if_neg (by omega)])
    go_wp2_with fail
    go_roundw
    case rel => exact ⟨k + 1, by omega, by go_num, Lib.hid (fun j hj => by
     rw [hnext.out j hj, e32.out]
     by_cases e : j = k
     ·subst e; rw [if_pos rfl]; exact hcell
     ·rw [if_neg e]; exact hcs.out j hj), hzs, hbel⟩
    case measure => simp [RowKit.intOf]; omega
  ·obtain rfl : k = s.size := by omega
   have hback := run_convert_bytes_arg (P := Try.prog) wr 103 5 Try.underlying103 Try.underlying5 w.heap.size 0 s.size C ((Ru.bs s).map Ru.lowI) (by rw [List.length_map]; exact hl.out) (fun i hi => by
    rw [Nat.zero_add, hcs.out i hi, Ru.part_g _ _ _ (by rw [hl.out]; omega), if_pos (by omega)]
    have := Ru.g_map (l := Ru.bs s) (k := i) (by rw [hl.out]; exact hi)
    unfold Ru.g at this ⊢
    rw [this]) 9 Try.underlying9
   clear hcs hzs
   go_wp2_with fail
   go_ret
   exact ⟨rfl, hbel.out⟩
end Go.Proofs.Ytaofkaehhikfaaa
namespace Go.Proofs.Ytaofkaehhikfaaa
open Go.Lib Go.Joins Go.Deep
open Go.ChangeShapes Go.WideShapes Go.ChangeAt Go.RowKit Go.WideMaps Go.WideElems
open Go.ChangeMaps (setBlock shut_map_nil open_string shut_string)
namespace Rl
def Opn {H : Type} (enc : TypeId × Value -> H) (P : Program) (t : TypeId) {α : Type} (R : World -> α -> List Value -> Prop) : Prop :=
 ∀ (W : World) (base fuel : Nat) (cs : List Value) (x : DataW H × List MemPlace), DataW.trod enc P W base (fun _ => true) true fuel t cs = some x ->
   ∃ u : α, R W u cs /\ ∀ W', Below W.heap.size W W' -> ∀ sp : Nat -> Bool, (∀ q ∈ x.2, sp q.block = true) -> ∃ n, DataW.trod enc P W' base sp true n t cs = some x
section
variable {H : Type} {enc : TypeId × Value -> H} {P : Program}
def IntR (_ : World) (n : Int) (cs : List Value) : Prop := cs = [.int .i64 n] /\ I64 n
def StrR (_ : World) (s : ByteArray) (cs : List Value) : Prop := cs = [.string s] /\ s.size <= maxLen
def BoolR (_ : World) (b : Bool) (cs : List Value) : Prop := cs = [.bool b]
theorem opn_int {t : TypeId} (ht : P.underlying t = some (.int .i64)) : Opn enc P t IntR := fun W base fuel cs x h => by
 obtain ⟨n, rfl, rfl, hw⟩ := DataW.trod_int ht h
 exact ⟨n, ⟨rfl, i64_wf hw⟩, fun W' _ sp _ => ⟨1, trod_int_mk 0 ht hw⟩⟩
theorem opn_str {t : TypeId} (ht : P.underlying t = some .string) : Opn enc P t StrR := fun W base fuel cs x h => by
 obtain ⟨s, rfl, rfl, hw⟩ := DataW.trod_string ht h
 exact ⟨s, ⟨rfl, hw⟩, fun W' _ sp _ => ⟨1, by simp [DataW.trod, ht, hw]⟩⟩
theorem opn_bool {t : TypeId} (ht : P.underlying t = some .bool) : Opn enc P t BoolR := fun W base fuel cs x h => by
 obtain ⟨b, rfl, rfl⟩ := DataW.trod_bool ht h
 exact ⟨b, rfl, fun W' _ sp _ => ⟨1, by simp [DataW.trod, ht]⟩⟩
variable {α β γ δ : Type} {Ra : World -> α -> List Value -> Prop} {Rb : World -> β -> List Value -> Prop} {Rc : World -> γ -> List Value -> Prop} {Rd : World -> δ -> List Value -> Prop}
def St2 (Ra : World -> α -> List Value -> Prop) (Rb : World -> β -> List Value -> Prop) (W : World) (u : α × β) (cs : List Value) : Prop := ∃ a b, cs = [a, b] /\ Ra W u.1 [a] /\ Rb W u.2 [b]
def St3 (Ra : World -> α -> List Value -> Prop) (Rb : World -> β -> List Value -> Prop) (Rc : World -> γ -> List Value -> Prop) (W : World) (u : α × β × γ) (cs : List Value) : Prop := ∃ a b c, cs = [a, b, c] /\ Ra W u.1 [a] /\ Rb W u.2.1 [b] /\ Rc W u.2.2 [c]
def St4 (Ra : World -> α -> List Value -> Prop) (Rb : World -> β -> List Value -> Prop) (Rc : World -> γ -> List Value -> Prop) (Rd : World -> δ -> List Value -> Prop) (W : World) (u : α × β × γ × δ) (cs : List Value) : Prop := ∃ a b c d, cs = [a, b, c, d] /\ Ra W u.1 [a] /\ Rb W u.2.1 [b] /\ Rc W u.2.2.1 [c] /\ Rd W u.2.2.2 [d]
theorem opn_st2 {t : TypeId} {f0 f1 : Field} (hs : P.underlying t = some (.struct #[f0, f1])) (hone : oneCellFields P #[f0, f1] = true) (hC : P.cellsOf t = 2) (i0 : Opn enc P f0.type Ra) (i1 : Opn enc P f1.type Rb) : Opn enc P t (St2 Ra Rb) := fun W base fuel cs x h => by
 obtain ⟨y0, y1, n', rfl, hl, h0, h1⟩ := trod_struct2 hs h
 obtain ⟨o0, k0⟩ := hone_of hone 0 f0 rfl
 obtain ⟨o1, k1⟩ := hone_of hone 1 f1 rfl
 rw [o0, k0] at h0
 rw [o1, k1] at h1
 match cs, hl.trans hC with
 | [a, b], _ =>
   obtain ⟨u0, r0, s0⟩ := i0 W base _ _ _ h0
   obtain ⟨u1, r1, s1⟩ := i1 W base _ _ _ h1
   refine ⟨(u0, u1), ⟨a, b, rfl, r0, r1⟩, fun W' hb sp hsp => ?_⟩
   obtain ⟨n, hn⟩ := shut_agg2 (enc := enc) (w := W') (base := base) (spare := sp) (held := true) (v0 := a) (v1 := b) (y0 := y0) (y1 := y1) hs hone hC
    (s0 W' hb sp fun q hq => hsp q (by simp [hq])) (s1 W' hb sp fun q hq => hsp q (by simp [hq]))
   exact ⟨n, by simpa [Value.cells] using hn⟩
theorem opn_st3 {t : TypeId} {f0 f1 f2 : Field} (hs : P.underlying t = some (.struct #[f0, f1, f2])) (hone : oneCellFields P #[f0, f1, f2] = true) (hC : P.cellsOf t = 3) (i0 : Opn enc P f0.type Ra) (i1 : Opn enc P f1.type Rb) (i2 : Opn enc P f2.type Rc) : Opn enc P t (St3 Ra Rb Rc) := fun W base fuel cs x h => by
 obtain ⟨y0, y1, y2, n', rfl, hl, h0, h1, h2⟩ := trod_struct3 hs h
 obtain ⟨o0, k0⟩ := hone_of hone 0 f0 rfl
 obtain ⟨o1, k1⟩ := hone_of hone 1 f1 rfl
 obtain ⟨o2, k2⟩ := hone_of hone 2 f2 rfl
 rw [o0, k0] at h0
 rw [o1, k1] at h1
 rw [o2, k2] at h2
 match cs, hl.trans hC with
 | [a, b, c], _ =>
   obtain ⟨u0, r0, s0⟩ := i0 W base _ _ _ h0
   obtain ⟨u1, r1, s1⟩ := i1 W base _ _ _ h1
   obtain ⟨u2, r2, s2⟩ := i2 W base _ _ _ h2
   refine ⟨(u0, u1, u2), ⟨a, b, c, rfl, r0, r1, r2⟩, fun W' hb sp hsp => ?_⟩
   obtain ⟨n, hn⟩ := shut_agg3 (enc := enc) (w := W') (base := base) (spare := sp) (held := true) (v0 := a) (v1 := b) (v2 := c) (y0 := y0) (y1 := y1) (y2 := y2) hs hone hC
    (s0 W' hb sp fun q hq => hsp q (by simp [hq])) (s1 W' hb sp fun q hq => hsp q (by simp [hq])) (s2 W' hb sp fun q hq => hsp q (by simp [hq]))
   exact ⟨n, by simpa [Value.cells] using hn⟩
theorem opn_st4 {t : TypeId} {f0 f1 f2 f3 : Field} (hs : P.underlying t = some (.struct #[f0, f1, f2, f3])) (hone : oneCellFields P #[f0, f1, f2, f3] = true) (hC : P.cellsOf t = 4) (i0 : Opn enc P f0.type Ra) (i1 : Opn enc P f1.type Rb) (i2 : Opn enc P f2.type Rc) (i3 : Opn enc P f3.type Rd) : Opn enc P t (St4 Ra Rb Rc Rd) := fun W base fuel cs x h => by
 obtain ⟨y0, y1, y2, y3, n', rfl, hl, h0, h1, h2, h3⟩ := trod_struct4 hs h
 obtain ⟨o0, k0⟩ := hone_of hone 0 f0 rfl
 obtain ⟨o1, k1⟩ := hone_of hone 1 f1 rfl
 obtain ⟨o2, k2⟩ := hone_of hone 2 f2 rfl
 obtain ⟨o3, k3⟩ := hone_of hone 3 f3 rfl
 rw [o0, k0] at h0
 rw [o1, k1] at h1
 rw [o2, k2] at h2
 rw [o3, k3] at h3
 match cs, hl.trans hC with
 | [a, b, c, d], _ =>
   obtain ⟨u0, r0, s0⟩ := i0 W base _ _ _ h0
   obtain ⟨u1, r1, s1⟩ := i1 W base _ _ _ h1
   obtain ⟨u2, r2, s2⟩ := i2 W base _ _ _ h2
   obtain ⟨u3, r3, s3⟩ := i3 W base _ _ _ h3
   refine ⟨(u0, u1, u2, u3), ⟨a, b, c, d, rfl, r0, r1, r2, r3⟩, fun W' hb sp hsp => ?_⟩
   obtain ⟨n, hn⟩ := shut_agg4 (enc := enc) (w := W') (base := base) (spare := sp) (held := true) (v0 := a) (v1 := b) (v2 := c) (v3 := d) (y0 := y0) (y1 := y1) (y2 := y2) (y3 := y3) hs hone hC
    (s0 W' hb sp fun q hq => hsp q (by simp [hq])) (s1 W' hb sp fun q hq => hsp q (by simp [hq])) (s2 W' hb sp fun q hq => hsp q (by simp [hq])) (s3 W' hb sp fun q hq => hsp q (by simp [hq]))
   exact ⟨n, by simpa [Value.cells] using hn⟩
def Cells (sz : Nat) (Ra : World -> α -> List Value -> Prop) (W : World) (A : Option Addr) (us : List α) : Prop :=
 0 < us.length -> ∃ b off, A = some ⟨b, off, none⟩ /\ b < W.heap.size /\ ∀ j (hj : j < us.length), ∃ cs, cs.length = sz /\ Ra W us[j] cs /\ ∀ i x, cs[i]? = some x -> W.cell? ⟨b, off + j * sz + i, none⟩ = some x
def Sl (sz : Nat) (Ra : World -> α -> List Value -> Prop) (W : World) (us : List α) (cs : List Value) : Prop :=
 ∃ (A : Option Addr) (cap : Nat), cs = [.slice A us.length cap] /\ us.length <= cap /\ us.length <= 9223372036854775807 /\ Cells sz Ra W A us
theorem opn_slice [Inhabited α] {t e : TypeId} {sz : Nat} (ht : P.underlying t = some (.slice e)) (hC : P.cellsOf e = sz) (hsz : 0 < sz) (ie : Opn enc P e Ra) : Opn enc P t (Sl sz Ra) := fun W base fuel cs x h => by
 rcases open_slice ht h with ⟨rfl, rfl⟩ | ⟨a, len, cap, m, n, D, Pl, rfl, hb, hl, hm, hmm, rfl, hi⟩
 ·exact ⟨[], ⟨none, 0, rfl, Nat.le_refl _, by simp, fun h0 => by simp at h0⟩, fun W' _ sp _ => ⟨1, by simp [DataW.trod, ht]⟩⟩
 ·rw [if_pos rfl] at hmm
  subst hmm
  have hone : ∀ i, i < m -> ∃ u : α × List Value, u.2.length = sz /\ (∀ j y, u.2[j]? = some y -> W.cell? ((a.add (i * sz)).add j) = some y) /\ Ra W u.1 u.2 /\
   ∀ W', Below W.heap.size W W' -> ∀ sp : Nat -> Bool, (∀ q ∈ Pl i, sp q.block = true) -> ∃ n, DataW.trod enc P W' base sp true n e u.2 = some (D i, Pl i) := fun i him => by
   obtain ⟨cs', hc, htr⟩ := hi i him
   obtain ⟨_, hcl, hat⟩ := World.cells?_some hc
   rw [hC] at hcl hat
   obtain ⟨u, r, s⟩ := ie W base n cs' _ htr
   refine ⟨(u, cs'), hcl, fun j y hj => ?_, r, s⟩
   have hj3 : j < sz := by rw [<- hcl]; exact (List.getElem?_eq_some_iff.1 hj).1
   exact (hat j hj3).trans hj
  obtain ⟨U, hU⟩ := choose_lt hone
  have hblk : 0 < m -> a.block < W.heap.size /\ a.spot = none := fun h => by
   obtain ⟨h1, h2, _⟩ := hU 0 h
   have hx : (U 0).2[0]? = some (U 0).2[0] := List.getElem?_eq_getElem (by omega)
   have h0 := h2 0 _ hx
   rw [Nat.zero_mul] at h0
   exact ⟨by simpa [Addr.add] using World.block_lt_of_cell? W _ h0, by simpa [Addr.add] using World.cell?_spot h0⟩
  refine ⟨(List.range len).map fun i => (U i).1, ⟨some a, m, by simp, by simpa using hl, by simp only [List.length_map, List.length_range]; unfold maxLen at hm; omega, fun h0 => ?_⟩, fun W' hb' sp hsp => ?_⟩
  ·simp only [List.length_map, List.length_range] at h0
   obtain ⟨b, off, spot⟩ := a
   have hh := hblk (by omega)
   have hs : spot = none := hh.2
   subst hs
   refine ⟨b, off, rfl, hh.1, fun j hj => ?_⟩
   simp only [List.length_map, List.length_range] at hj
   obtain ⟨h1, h2, h3, _⟩ := hU j (by omega)
   refine ⟨(U j).2, h1, by simpa using h3, fun i y hy => ?_⟩
   have := h2 i y hy
   rw [Addr.add_lit, Addr.add_lit] at this
   exact this
  ·by_cases hm0 : m = 0
   ·subst hm0
    have hl0 : len = 0 := by omega
    subst hl0
    have hspf : sp a.block = true ∨ sp a.block = false := by cases sp a.block <;> simp
    rcases hspf with hspt | hspt
    ·obtain ⟨n, hn⟩ := shut_slice_whole (enc := enc) (P := P) (w := W') (held := true) ht hb (Nat.le_refl 0) hm hspt D Pl (fun i hi => by omega)
     exact ⟨n, by simpa [Value.cells] using hn⟩
    ·obtain ⟨n, hn⟩ := shut_slice (enc := enc) (P := P) (w := W') (held := true) ht hb (Nat.le_refl 0) hm hspt D Pl (fun i hi => by omega)
     exact ⟨n, by simpa [Value.cells] using hn⟩
   ·have hspb : sp a.block = true := hsp (.cell a.block a.off) (by
     refine List.mem_append.2 (.inl (MemPlace.mem_row.2 ⟨0, ?_, by simp⟩))
     rw [hC]
     have : 0 < m * sz := Nat.mul_pos (by omega) hsz
     omega)
    obtain ⟨n, hn⟩ := shut_slice_whole (enc := enc) (P := P) (w := W') (held := true) ht hb hl hm hspb D Pl (fun i hi => by
     obtain ⟨h1, h2, h3, h4⟩ := hU i hi
     obtain ⟨nn, hnn⟩ := h4 W' hb' sp fun q hq => hsp q (List.mem_append.2 (.inr (List.mem_flatMap.2 ⟨i, List.mem_range.2 hi, hq⟩)))
     refine ⟨(U i).2, nn, ?_, hnn⟩
     rw [hC]
     refine World.cells?_of_each (by rw [block_add]; exact hb) h1 fun j hj => ?_
     have hlt : ((a.add (i * sz)).add j).block < W.heap.size := by rw [block_add, block_add]; exact (hblk (by omega)).1
     have hx : (U i).2[j]? = some (U i).2[j] := List.getElem?_eq_getElem (by omega)
     rw [hb'.cell hlt, h2 j _ hx, hx])
    exact ⟨n, by simpa [Value.cells] using hn⟩
end
end Rl
end Go.Proofs.Ytaofkaehhikfaaa
namespace Go.Proofs.Ytaofkaehhikfaaa
open Go.RowKit
namespace Rl
def Tyd (oE : Option TypeId) (W : World) (A : Option Addr) : Prop := ∀ E, oE = some E -> ∀ b off, A = some ⟨b, off, none⟩ -> ∃ cs fz, W.heap[b]? = some (.cells cs E fz)
theorem tyd_next {oE : Option TypeId} {w w1 : World} {A : Option Addr} (h : Tyd oE w A) (hw : Below w.heap.size w w1) : Tyd oE w1 A := fun E hE b off hA => by
 obtain ⟨cs, fz, h1⟩ := h E hE b off hA
 exact ⟨cs, fz, below_block hw h1⟩
theorem own_tyd {W : World} {base sz n cap : Nat} {E : TypeId} {A : Option Addr} {xs : List Value} (ho : W.ownsRow base E sz (.slice A n cap) n xs) : Tyd (some E) W A := fun E1 hE b off hA => by
 injection hE with hE
 subst hE
 rcases ho.2 with ⟨hv, _⟩ | ⟨g, c, cur, hv, _, hh, _⟩
 ·injection hv with h1
  rw [h1] at hA; cases hA
 ·injection hv with h1
  rw [h1] at hA
  injection hA with hA
  injection hA with hA _
  subst hA
  exact ⟨cur, (0, 0), hh⟩
end Rl
def TsT (w : World) (A : Option Addr) (us : List Tk.Tok) : Prop := Ts w w.heap.size A us /\ Rl.Tyd (some 36) w A
theorem TsT.next {w w1 : World} {A : Option Addr} {us : List Tk.Tok} (h : TsT w A us) (hb : Below w.heap.size w w1) : TsT w1 A us := ⟨h.1.next hb, Rl.tyd_next h.2 hb⟩
namespace Rl
open Tk
def IntQ (_ : World) (n : Int) (cs : List Value) : Prop := cs = [.int .i64 n]
def StrQ (_ : World) (s : ByteArray) (cs : List Value) : Prop := cs = [.string s]
def SlQ {α : Type} (oE : Option TypeId) (sz : Nat) (Ra : World -> α -> List Value -> Prop) (W : World) (us : List α) (cs : List Value) : Prop :=
 ∃ (A : Option Addr) (cap : Nat), cs = [.slice A us.length cap] /\ us.length <= cap /\ Cells sz Ra W A us /\ Tyd oE W A
def TokQ : World -> Tok -> List Value -> Prop := St3 IntQ StrQ IntQ
def ty (t : Bool) (E : TypeId) : Option TypeId := if t = true then some E else none
def Keeps {α : Type} (R : World -> α -> List Value -> Prop) : Prop := ∀ w w1 u cs, R w u cs -> Below w.heap.size w w1 -> R w1 u cs
section
variable {α β γ δ : Type} {Ra : World -> α -> List Value -> Prop} {Rb : World -> β -> List Value -> Prop} {Rc : World -> γ -> List Value -> Prop} {Rd : World -> δ -> List Value -> Prop}
theorem keeps_int : Keeps IntQ := fun _ _ _ _ h _ => h
theorem keeps_str : Keeps StrQ := fun _ _ _ _ h _ => h
theorem keeps_bool : Keeps BoolR := fun _ _ _ _ h _ => h
theorem keeps_st2 (ha : Keeps Ra) (hb : Keeps Rb) : Keeps (St2 Ra Rb) := fun _ _ _ _ ⟨a, b, e, h1, h2⟩ hw => ⟨a, b, e, ha _ _ _ _ h1 hw, hb _ _ _ _ h2 hw⟩
theorem keeps_st3 (ha : Keeps Ra) (hb : Keeps Rb) (hc : Keeps Rc) : Keeps (St3 Ra Rb Rc) := fun _ _ _ _ ⟨a, b, c, e, h1, h2, h3⟩ hw => ⟨a, b, c, e, ha _ _ _ _ h1 hw, hb _ _ _ _ h2 hw, hc _ _ _ _ h3 hw⟩
theorem keeps_st4 (ha : Keeps Ra) (hb : Keeps Rb) (hc : Keeps Rc) (hd : Keeps Rd) : Keeps (St4 Ra Rb Rc Rd) := fun _ _ _ _ ⟨a, b, c, d, e, h1, h2, h3, h4⟩ hw => ⟨a, b, c, d, e, ha _ _ _ _ h1 hw, hb _ _ _ _ h2 hw, hc _ _ _ _ h3 hw, hd _ _ _ _ h4 hw⟩
theorem cells_next {sz : Nat} (ha : Keeps Ra) {w w1 : World} {A : Option Addr} {us : List α} (h : Cells sz Ra w A us) (hw : Below w.heap.size w w1) : Cells sz Ra w1 A us := fun h0 => by
 obtain ⟨b, off, e, hb, hc⟩ := h h0
 refine ⟨b, off, e, Nat.lt_of_lt_of_le hb hw.size, fun j hj => ?_⟩
 obtain ⟨cs, h1, h2, h3⟩ := hc j hj
 exact ⟨cs, h1, ha _ _ _ _ h2 hw, fun i x hx => (hw.cell (p := ⟨b, off + j * sz + i, none⟩) hb).trans (h3 i x hx)⟩
theorem keeps_sl {oE : Option TypeId} {sz : Nat} (ha : Keeps Ra) : Keeps (SlQ oE sz Ra) := fun _ _ _ _ ⟨A, cap, e, hc, h, ht⟩ hw => ⟨A, cap, e, hc, cells_next ha h hw, tyd_next ht hw⟩
theorem keeps_tok : Keeps TokQ := keeps_st3 keeps_int keeps_str keeps_int
def Only (E : TypeId) (g : Option Nat) (w w1 : World) : Prop := w.heap.size <= w1.heap.size /\ ∀ (b : Nat) (cs : Array Value) (T : TypeId) (fz : Nat × Nat), w.heap[b]? = some (.cells cs T fz) -> T ≠ E ∨ g ≠ some b -> w1.heap[b]? = w.heap[b]?
def KeepsT (E : TypeId) {α : Type} (R : World -> α -> List Value -> Prop) : Prop := ∀ g w w1 u cs, R w u cs -> Only E g w w1 -> R w1 u cs
section
variable {E : TypeId}
theorem kT_int : KeepsT E IntQ := fun _ _ _ _ _ h _ => h
theorem kT_str : KeepsT E StrQ := fun _ _ _ _ _ h _ => h
theorem kT_bool : KeepsT E BoolR := fun _ _ _ _ _ h _ => h
theorem kT_st2 (ha : KeepsT E Ra) (hb : KeepsT E Rb) : KeepsT E (St2 Ra Rb) := fun _ _ _ _ _ ⟨a, b, e, h1, h2⟩ hw => ⟨a, b, e, ha _ _ _ _ _ h1 hw, hb _ _ _ _ _ h2 hw⟩
theorem kT_st3 (ha : KeepsT E Ra) (hb : KeepsT E Rb) (hc : KeepsT E Rc) : KeepsT E (St3 Ra Rb Rc) := fun _ _ _ _ _ ⟨a, b, c, e, h1, h2, h3⟩ hw => ⟨a, b, c, e, ha _ _ _ _ _ h1 hw, hb _ _ _ _ _ h2 hw, hc _ _ _ _ _ h3 hw⟩
theorem kT_st4 (ha : KeepsT E Ra) (hb : KeepsT E Rb) (hc : KeepsT E Rc) (hd : KeepsT E Rd) : KeepsT E (St4 Ra Rb Rc Rd) := fun _ _ _ _ _ ⟨a, b, c, d, e, h1, h2, h3, h4⟩ hw => ⟨a, b, c, d, e, ha _ _ _ _ _ h1 hw, hb _ _ _ _ _ h2 hw, hc _ _ _ _ _ h3 hw, hd _ _ _ _ _ h4 hw⟩
theorem kT_sl {E' : TypeId} {sz : Nat} (hne : E' ≠ E) (ha : KeepsT E Ra) : KeepsT E (SlQ (some E') sz Ra) := fun g w w1 us cs ⟨A, cap, e, hc, h, ht⟩ hw => by
 refine ⟨A, cap, e, hc, fun h0 => ?_, fun E1 hE b off hA => ?_⟩
 ·obtain ⟨b, off, hA, hb, hcell⟩ := h h0
  obtain ⟨ks, fz, hk⟩ := ht E' rfl b off hA
  have hsame := hw.2 b ks E' fz hk (.inl hne)
  refine ⟨b, off, hA, Nat.lt_of_lt_of_le hb hw.1, fun j hj => ?_⟩
  obtain ⟨ys, h1, h2, h3⟩ := hcell j hj
  exact ⟨ys, h1, ha _ _ _ _ _ h2 hw, fun i x hx => (World.cell?_of_block (a := ⟨b, off + j * sz + i, none⟩) hsame).trans (h3 i x hx)⟩
 ·injection hE with hE
  subst hE
  obtain ⟨ks, fz, hk⟩ := ht E' rfl b off hA
  exact ⟨ks, fz, (hw.2 b ks E' fz hk (.inl hne)).trans hk⟩
theorem kT_tok : KeepsT E TokQ := kT_st3 kT_int kT_str kT_int
end
theorem cells_nil {sz : Nat} {W : World} {A : Option Addr} : Cells sz Ra W A [] := fun h => by simp at h
theorem cells_ts {W : World} {A : Option Addr} {us : List Tok} (h : Ts W W.heap.size A us) : Cells 3 TokQ W A us := fun h0 => by
 obtain ⟨b, off, e, hb, hc⟩ := h h0
 refine ⟨b, off, e, hb, fun j hj => ?_⟩
 obtain ⟨c0, c1, c2⟩ := hc j hj
 rw [tk_eq hj] at c0 c1 c2
 refine ⟨[.int .i64 us[j].1, .string us[j].2.1, .int .i64 us[j].2.2], rfl, ⟨_, _, _, rfl, rfl, rfl, rfl⟩, fun i x hx => ?_⟩
 match i, hx with
 | 0, hx => obtain rfl : Value.int .i64 us[j].1 = x := by simpa using hx
            exact c0
 | 1, hx => obtain rfl : Value.string us[j].2.1 = x := by simpa using hx
            exact c1
 | 2, hx => obtain rfl : Value.int .i64 us[j].2.2 = x := by simpa using hx
            exact c2
 | i + 3, hx => simp at hx
theorem ts_cells {W : World} {A : Option Addr} {us : List Tok} (h : Cells 3 TokQ W A us) : Ts W W.heap.size A us := fun h0 => by
 obtain ⟨b, off, e, hb, hc⟩ := h h0
 refine ⟨b, off, e, hb, fun j hj => ?_⟩
 obtain ⟨cs, _, ⟨a, b1, c, e1, ea, eb, ec⟩, h3⟩ := hc j hj
 injection ea with ea
 injection eb with eb
 injection ec with ec
 subst e1 ea eb ec
 rw [tk_eq hj]
 exact ⟨h3 0 _ rfl, h3 1 _ rfl, h3 2 _ rfl⟩
def Rds (sz : Nat) (Ra : World -> α -> List Value -> Prop) (W : World) (xs : List Value) (us : List α) : Prop :=
 xs.length = us.length * sz /\ ∀ j (hj : j < us.length), Ra W us[j] ((xs.drop (j * sz)).take sz)
theorem rds_nil {sz : Nat} {W : World} : Rds sz Ra W [] [] := ⟨by simp, fun j hj => by simp at hj⟩
theorem rds_next {sz : Nat} (ha : Keeps Ra) {w w1 : World} {xs : List Value} {us : List α} (h : Rds sz Ra w xs us) (hw : Below w.heap.size w w1) : Rds sz Ra w1 xs us := ⟨h.1, fun j hj => ha _ _ _ _ (h.2 j hj) hw⟩
theorem rds_app {sz : Nat} {w : World} {xs cs : List Value} {us : List α} {u : α} (h : Rds sz Ra w xs us) (hu : Ra w u cs) (hl : cs.length = sz) : Rds sz Ra w (xs ++ cs) (us ++ [u]) := by
 refine ⟨by rw [List.length_append, h.1, hl, List.length_append, List.length_singleton, Nat.add_mul, Nat.one_mul], fun j hj => ?_⟩
 rw [List.length_append, List.length_singleton] at hj
 by_cases hlt : j < us.length
 ·have h1 := h.2 j hlt
  rw [List.getElem_append_left hlt]
  have hm : j * sz + sz <= us.length * sz := by rw [<- Nat.succ_mul]; exact Nat.mul_le_mul_right _ hlt
  have e : ((xs ++ cs).drop (j * sz)).take sz = (xs.drop (j * sz)).take sz := by
   rw [List.drop_append_of_le_length (by rw [h.1]; omega), List.take_append_of_le_length (by rw [List.length_drop, h.1]; omega)]
  rw [e]; exact h1
 ·obtain rfl : j = us.length := by omega
  have e : ((xs ++ cs).drop (us.length * sz)).take sz = cs := by
   rw [<- h.1, List.drop_left, List.take_of_length_le (by omega)]
  rw [e, List.getElem_append_right (Nat.le_refl _)]
  simpa using hu
theorem rds_cells {sz cap : Nat} {W : World} {base : Nat} {E : TypeId} {A : Option Addr} {xs : List Value} {us : List α} (ho : W.ownsRow base E sz (.slice A us.length cap) us.length xs) (h : Rds sz Ra W xs us) : Cells sz Ra W A us := fun h0 => by
 obtain ⟨x, c, hv, _, hlt⟩ := ho.form h0
 have hA : A = some ⟨x, 0, none⟩ := by injection hv
 subst hA
 refine ⟨x, 0, rfl, hlt, fun j hj => ⟨(xs.drop (j * sz)).take sz, ?_, h.2 j hj, fun i y hy => ?_⟩⟩
 ·have hm : j * sz + sz <= us.length * sz := by rw [<- Nat.succ_mul]; exact Nat.mul_le_mul_right _ hj
  rw [List.length_take, List.length_drop, h.1]; omega
 ·rw [List.getElem?_take] at hy
  split at hy
  ·rw [List.getElem?_drop] at hy
   have := ho.cells (g := x) rfl (j * sz + i) y hy
   rw [Addr.add_lit, Nat.zero_add] at this
   rw [Nat.zero_add]
   exact this
  ·cases hy
end
structure Gr {α : Type} (E : TypeId) (sz : Nat) (Ra : World -> α -> List Value -> Prop) (w0 : World) (v : Value) (us : List α) (wr : World) : Prop where
 own : ∃ xs, Ow E sz w0 v us.length xs wr /\ Rds sz Ra wr xs us
section
variable {α : Type} {E : TypeId} {sz : Nat} {Ra : World -> α -> List Value -> Prop} {w0 wr w1 : World} {v : Value} {us : List α}
theorem Gr.bel (h : Gr E sz Ra w0 v us wr) : Below w0.heap.size w0 wr := by obtain ⟨xs, h1, _⟩ := h.own; exact h1.bel
theorem Gr.start (h : Below w0.heap.size w0 wr) : Gr E sz Ra w0 (.slice none 0 0) ([] : List α) wr := ⟨[], Ow.start _ _ h, rds_nil⟩
theorem Gr.next (ha : Keeps Ra) (h : Gr E sz Ra w0 v us wr) (hw : Below wr.heap.size wr w1) : Gr E sz Ra w0 v us w1 := by
 obtain ⟨xs, h1, h2⟩ := h.own
 exact ⟨xs, h1.next hw, rds_next ha h2 hw⟩
theorem Gr.form (h : Gr E sz Ra w0 v us wr) : ∃ (A : Option Addr) (cap : Nat), v = .slice A us.length cap /\ us.length <= cap /\ Cells sz Ra wr A us /\ Tyd (some E) wr A := by
 obtain ⟨xs, h1, h2⟩ := h.own
 obtain ⟨A, cap, rfl, hc⟩ := h1.form
 exact ⟨A, cap, rfl, hc, rds_cells h1.own h2, own_tyd h1.own⟩
theorem Gr.app {P : Program} {ops : Array Oper} {rest : List Oper} {o : Oper} {a : Act} {Q : Exit -> Act -> World -> Prop} (hT : KeepsT E Ra) (hgd : o.guard = none) (s x : Operand) (t : TypeId)
 (ho : o.op = .call { callee := .builtin .append, args := #[s, x], argTypes := #[t, t] }) (i : TypeInfo) (z : Value) (bytes : Nat) (ht : P.underlying t = some (.slice E)) (hi : P.info? E = some i) (hz : i.zero = some z)
 (hsize : i.size = sz) (hby : i.bytes = bytes) (hzs : z.cells.size = sz) (hsz : 0 < sz) (hs : a.eval s = v) (H : Gr E sz Ra w0 v us wr) (u : α) (cs : List Value) (hu : Ra wr u cs) (c : Nat) (E' : TypeId)
 (hx : a.eval x = .slice (some ⟨wr.heap.size, 0, none⟩) 1 c) (hl : cs.length = sz) (h1 : ∀ y ∈ cs, y.oneCell' = true) (h63 : us.length + 1 <= maxLen) (hbytes : (us.length + 1) * bytes <= 140737488355328)
 (h : ∀ v' w3, Gr E sz Ra w0 v' (us ++ [u]) w3 -> Only E v.ownBlock wr w3 -> (v'.ownBlock = v.ownBlock ∨ ∃ k, v'.ownBlock = some k /\ wr.heap.size <= k) -> wpList P ops Q rest (a.put o.dst v') w3) : wpList P ops Q (o :: rest) a (wr.alloc (.cells cs.toArray E')) := by
 obtain ⟨xs, H1, H2⟩ := H.own
 subst hs
 refine wpList_plain hgd fun K hK => ?_
 have hal := (Below.refl wr.heap.size wr).alloc (Nat.le_refl _) (.cells cs.toArray E')
 obtain ⟨v', w3, hrun, hown, hg, _, hblk⟩ := run_append_own_at (P := P) (wr.alloc (.cells cs.toArray E')) w0.heap.size t o.type E i z sz bytes ht hi hz hsize hby hzs hsz _ us.length xs (H1.own.alloc _) ⟨wr.heap.size, 0, none⟩ 1 c cs (by omega) (fun j y hj => by
  rw [Addr.add_lit, Nat.zero_add, World.cell?_alloc_mark]
  simpa using hj) h1 h63 hbytes (alloc_size H1.bel.size _)
 unfold Oper.wp execOp
 simp only [ho, resolve, invoke, builtin, Sem.run_bind, Sem.run_pure, Result.andThen_ok, List.map_toArray, List.map_cons, List.map_nil, hx, hrun]
 have hon : Only E (a.eval s).ownBlock wr w3 := by
  refine ⟨Nat.le_trans hal.size hg.size, fun b ks T fz hk hne => ?_⟩
  have hlt : b < wr.heap.size := by
   by_cases c : b < wr.heap.size
   ·exact c
   ·rw [Array.getElem?_eq_none (by omega)] at hk; cases hk
  refine (hg.block b (Nat.lt_of_lt_of_le hlt hal.size) (fun e => ?_)).trans (hal.block b hlt)
  rcases hne with hne | hne
  ·rcases H1.own.2 with ⟨hv, _⟩ | ⟨g, cap, cur, hv, _, hh, _⟩
   ·rw [hv] at e; simp [Value.ownBlock] at e
   ·rw [hv] at e
    have e2 : b = g := by simpa [Value.ownBlock] using e
    subst e2
    rw [hk] at hh
    injection hh with hh
    injection hh with _ ht
    exact hne ht
  ·exact hne e.symm
 refine hK _ _ (h v' w3 ⟨xs ++ cs, ⟨by rw [List.length_append, List.length_singleton]; exact hown, (H1.bel.alloc H1.bel.size _).grown hg (by have := H1.bel.size; simp; omega) (fun j hj => (H1.own.lt j hj).1)⟩, ?_⟩ hon ?_)
 ·exact rds_app ⟨H2.1, fun j hj => hT _ _ _ _ _ (H2.2 j hj) hon⟩ (hT _ _ _ _ _ hu hon) hl
 ·rcases hblk with h5 | h5
  ·exact .inl h5
  ·exact .inr ⟨_, h5, hal.size⟩
theorem Gr.only {E2 : TypeId} (hne : E ≠ E2) (hT : KeepsT E2 Ra) (h : Gr E sz Ra w0 v us wr) {gg : Option Nat} (ho : Only E2 gg wr w1) (hb : Below w0.heap.size w0 w1) : Gr E sz Ra w0 v us w1 := by
 obtain ⟨xs, h1, h2⟩ := h.own
 refine ⟨xs, ⟨⟨h1.own.1, ?_⟩, hb⟩, h2.1, fun j hj => hT _ _ _ _ _ (h2.2 j hj) ho⟩
 rcases h1.own.2 with h3 | ⟨g, cap, cur, hv, hg, hh, rest⟩
 ·exact .inl h3
 ·exact .inr ⟨g, cap, cur, hv, hg, (ho.2 g cur E (0, 0) hh (.inl hne)).trans hh, rest⟩
end
end Rl
namespace Ru
def wr (l : List Int) : List Int := l.flatMap Lib.encodeRuneZ
theorem wr_snoc (l : List Int) (c : Int) : wr (l ++ [c]) = wr l ++ Lib.encodeRuneZ c := by unfold wr; simp
theorem wr_len (l : List Int) : (wr l).length <= 4 * l.length := by
 induction l with
 | nil => simp [wr]
 | cons c t ih =>
   have := (Lib.encodeRuneZ_length c).2
   unfold wr at *
   rw [List.flatMap_cons, List.length_append, List.length_cons]
   omega
theorem wr_by (l : List Int) : By (wr l) := fun c hc => by
 unfold wr at hc
 obtain ⟨x, _, hx⟩ := List.mem_flatMap.1 hc
 exact Lib.encodeRuneZ_byte x c hx
end Ru
theorem cells_enc (c : Int) : Lib.runeCells c = nums .u8 (Lib.encodeRuneZ c) := rfl
def WriteAt (w : World) (l : List Int) (v3 v11 : Value) (wr : World) : Prop :=
 ∃ k : Nat, k <= l.length /\ v11 = .int .i64 k /\ wr.ownsRow w.heap.size 5 1 v3 (Ru.wr (l.take k)).length (nums .u8 (Ru.wr (l.take k))) /\ Below w.heap.size w wr
namespace Tk
def str (l : List Int) : ByteArray := strOfNums (Ru.wr l)
end Tk
theorem made_form {k : IntKind} {E : TypeId} {l : List Int} {w : World} {e : Ending} {w' : World} (h : Made k E l w e w') : ∃ (A : Option Addr) (cap : Nat), e = .returned (.slice A l.length cap) /\ l.length <= cap /\ Bs w' w'.heap.size k A l /\ Below w.heap.size w w' := by
 obtain ⟨v, rfl, hown, hb⟩ := h
 rcases hown.2 with ⟨rfl, h0⟩ | ⟨x, cap, cur, rfl, _, _, hc, _⟩
 ·exact ⟨none, 0, by rw [h0], by omega, fun hl => by omega, hb⟩
 ·exact ⟨_, cap, rfl, hc, Bs.of_own hown, hb⟩
theorem own_bs {w : World} {B : Nat} {k : IntKind} {E : TypeId} {l : List Int} {v : Value} (h : w.ownsRow B E 1 v l.length (nums k l)) : ∃ A cap, v = .slice A l.length cap /\ l.length <= cap /\ Bs w w.heap.size k A l := by
 rcases h.2 with ⟨rfl, h0⟩ | ⟨x, cap, cur, rfl, _, _, hc, _⟩
 ·exact ⟨none, 0, by rw [h0], by omega, fun hl => by omega⟩
 ·exact ⟨_, cap, rfl, hc, Bs.of_own h⟩
theorem conv_bytes {w : World} {B : Nat} {A : Option Addr} {l : List Int} (c : Nat) (h : Bs w B .u8 A l) : (convert 103 9 (.slice A l.length c)).run Try.prog w = .ok (.string (strOfNums l)) w := by
 by_cases h0 : 0 < l.length
 ·obtain ⟨b, off, rfl, _, hp⟩ := h h0
  exact run_convert_bytes_arg w 103 5 Try.underlying103 Try.underlying5 b off l.length c l rfl hp 9 Try.underlying9
 ·have hl : l = [] := List.eq_nil_of_length_eq_zero (by omega)
  subst hl
  cases A with
  | none => exact run_convert_bytes_nil w 103 5 Try.underlying103 Try.underlying5 0 c 9 Try.underlying9
  | some a => exact run_convert_bytes_back w 103 9 5 a c [] Try.underlying103 Try.underlying5 Try.underlying9 (fun j hj => by cases hj)
theorem app_u8 {ops : Array Oper} {rest : List Oper} {o : Oper} {a : Act} {Q : Exit -> Act -> World -> Prop} {w0 wr : World} {v : Value} {l : List Int} (hgd : o.guard = none) (s x : Operand)
 (ho : o.op = .call { callee := .builtin .append, args := #[s, x], argTypes := #[103, 103] }) (hs : a.eval s = v) (H : Ow 5 1 w0 v l.length (nums .u8 l) wr) (y : Int) (c : Nat) (E' : TypeId)
 (hx : a.eval x = .slice (some ⟨wr.heap.size, 0, none⟩) 1 c) (hm : l.length <= 1000000)
 (h : ∀ v' w3, Ow 5 1 w0 v' (l ++ [y]).length (nums .u8 (l ++ [y])) w3 -> wpList Try.prog ops Q rest (a.put o.dst v') w3) : wpList Try.prog ops Q (o :: rest) a (wr.alloc (.cells #[.int .u8 y] E')) := by
 obtain ⟨i0, hi, hz0, hz1, hz2⟩ := info_parts Try.info5
 refine app_own hgd s x 103 ho i0 (.int .u8 0) 1 Try.underlying103 hi hz0 hz1 hz2 rfl (by decide) hs H [.int .u8 y] c E' _ rfl hx rfl (by simp [Value.oneCell']) (by unfold maxLen; omega) (by omega) (fun v' w3 H3 => ?_)
 refine h v' w3 ?_
 rw [List.length_append, nums_app]
 exact H3
theorem low_take {l : List Int} {k : Nat} (h : k < l.length) : (l.map Ru.lowI).take (k + 1) = (l.map Ru.lowI).take k ++ [Ru.lowI (Ru.g l k)] := by
 rw [List.take_succ_eq_append_getElem (by simpa using h), List.getElem_map, Ru.g_eq h]
def LowrAt (w : World) (s : ByteArray) (v3 v4 : Value) (wr : World) : Prop :=
 ∃ k : Nat, k <= s.size /\ v4 = .int .i64 k /\ Ow 5 1 w v3 (((Ru.bs s).map Ru.lowI).take k).length (nums .u8 (((Ru.bs s).map Ru.lowI).take k)) wr
theorem rlower_any (s : ByteArray) (hm : s.size <= 90000) (w : World) :
 Calls Try.prog 50 #[.string s] w (Sg (Ru.lowS s) w) := by
 have HL : Hid ((Ru.bs s).length = s.size) := Lib.hid (Ru.bs_len s)
 go_enter Try.func50, Try.ntmps50
 go_wp2_with fail
 go_loopw [3, 4] (fun v3 v4 wr => LowrAt w s v3 v4 wr) (fun _ v4 _ => s.size - (RowKit.intOf v4).toNat)
 case atStart => exact ⟨0, Nat.zero_le _, rfl, Ow.start _ _ (Below.refl _ _)⟩
 case round =>
  obtain ⟨k, hk, rfl, hown⟩ := hrel
  have HO := Lib.hid hown
  clear hown
  have hml : (((Ru.bs s).map Ru.lowI).take k).length <= 1000000 := by
   have := List.length_take_le k ((Ru.bs s).map Ru.lowI); omega
  by_cases hlt : k < s.size
  ·have hb0 := (Ru.bs_by s).at_ k
   have HN := Lib.hid (low_take (l := Ru.bs s) (k := k) (by rw [HL.out]; exact hlt))
   rw [Ru.bs_get s k hlt] at hb0
   have HG := Lib.hid (Ru.bs_get s k hlt)
   by_cases u1 : 65 <= (s[k].toNat : Int)
   ·by_cases u2 : (s[k].toNat : Int) <= 90
    ·have HV : Hid ((s[k].toNat : Int) + 32 = Ru.lowI (Ru.g (Ru.bs s) k)) := Lib.hid (by rw [HG.out]; unfold Ru.lowI; rw [if_pos ⟨u1, u2⟩])
     generalize ((Ru.bs s).map Ru.lowI).take k = l at *
     go_wp2_with (at_builtin; refine app_u8 rfl _ _ rfl rfl HO.out ((s[k].toNat : Int) + 32) _ _ rfl hml ?_; intro v' w3 H3; have HO3 := Lib.hid H3; clear H3)
     go_roundw
     case rel => exact ⟨k + 1, by omega, by go_num, by rw [HN.out, <- HV.out]; exact HO3.out⟩
     case measure => simp [RowKit.intOf]; omega
    ·have HV : Hid ((s[k].toNat : Int) = Ru.lowI (Ru.g (Ru.bs s) k)) := Lib.hid (by rw [HG.out]; unfold Ru.lowI; rw [if_neg (fun c => u2 c.2)])
     have d2 : decide ((s[k].toNat : Int) <= 90) = false := decide_eq_false u2
     generalize ((Ru.bs s).map Ru.lowI).take k = l at *
     go_wp2_with (at_builtin; refine app_u8 rfl _ _ rfl rfl HO.out (s[k].toNat : Int) _ _ rfl hml ?_; intro v' w3 H3; have HO3 := Lib.hid H3; clear H3)
     go_roundw
     case rel => exact ⟨k + 1, by omega, by go_num, by rw [HN.out, <- HV.out]; exact HO3.out⟩
     case measure => simp [RowKit.intOf]; omega
   ·have HV : Hid ((s[k].toNat : Int) = Ru.lowI (Ru.g (Ru.bs s) k)) := Lib.hid (by rw [HG.out]; unfold Ru.lowI; rw [if_neg (fun c => u1 c.1)])
    have d1 : decide (65 <= (s[k].toNat : Int)) = false := decide_eq_false u1
    generalize ((Ru.bs s).map Ru.lowI).take k = l at *
    go_wp2_with (at_builtin; refine app_u8 rfl _ _ rfl rfl HO.out (s[k].toNat : Int) _ _ rfl hml ?_; intro v' w3 H3; have HO3 := Lib.hid H3; clear H3)
    go_roundw
    case rel => exact ⟨k + 1, by omega, by go_num, by rw [HN.out, <- HV.out]; exact HO3.out⟩
    case measure => simp [RowKit.intOf]; omega
  ·obtain rfl : k = s.size := by omega
   have HT : Hid (((Ru.bs s).map Ru.lowI).take s.size = (Ru.bs s).map Ru.lowI) := Lib.hid (List.take_of_length_le (by rw [List.length_map, HL.out]; exact Nat.le_refl _))
   obtain ⟨A, cap, rfl, hc, hB⟩ := own_bs HO.out.own
   have hconv := conv_bytes cap hB
   have HB := Lib.hid HO.out.bel
   have HTT : Hid (strOfNums (((Ru.bs s).map Ru.lowI).take s.size) = Ru.lowS s) := Lib.hid (by rw [HT.out]; rfl)
   clear HO hB
   generalize ((Ru.bs s).map Ru.lowI).take s.size = l at *
   go_wp2_with fail
   go_ret
   exact ⟨by rw [<- HTT.out]; rfl, HB.out⟩
namespace Vl
def PrtQ (w : World) (_ : World) (p : Prt) (cs : List Value) : Prop :=
 ∃ (A : Option Addr) (cap : Nat), cs = [.int .i64 p.1.1, .string p.1.2.1, .int .i64 p.1.2.2, .slice A p.2.length cap] /\ p.2.length <= cap /\ Ts w w.heap.size A p.2
abbrev prtV (t : Tk.Tok) (A : Option Addr) (n cap : Nat) : Value := .agg #[.int .i64 t.1, .string t.2.1, .int .i64 t.2.2, .slice A n cap]
abbrev prtO (t : Tk.Tok) (A : Option Addr) (n cap : Nat) : Obj := .cells #[.int .i64 t.1, .string t.2.1, .int .i64 t.2.2, .slice A n cap] 71
theorem four_cells {w : World} {k : Nat} {x0 x1 x2 x3 : Value} {E : TypeId} (h : w.heap[k]? = some (.cells #[x0, x1, x2, x3] E (0, 0))) :
 w.cell? ⟨k, 0, none⟩ = some x0 /\ w.cell? ⟨k, 1, none⟩ = some x1 /\ w.cell? ⟨k, 2, none⟩ = some x2 /\ w.cell? ⟨k, 3, none⟩ = some x3 := by
 refine ⟨?_, ?_, ?_, ?_⟩ <;> simp [World.cell?, h]
theorem boxed (w : World) (t : Tk.Tok) (A : Option Addr) (n cap : Nat) : ∃ W0, w.alloc (prtO t A n cap) = W0 /\ Below w.heap.size w W0 /\ W0.heap[w.heap.size]? = some (prtO t A n cap) /\ w.heap.size < W0.heap.size :=
 ⟨_, rfl, (Below.refl _ _).alloc (Nat.le_refl _) _, heap_alloc_new w _, by simp⟩
end Vl
theorem str_yesL (l : List UInt8) {s : ByteArray} (h : s = ⟨l.toArray⟩) : (s.toList == l) = true := by rw [h, Lib.toList_data]; simp
theorem str_noL (l : List UInt8) {s : ByteArray} (h : s ≠ ⟨l.toArray⟩) : (s.toList == l) = false := by
 cases hc : (s.toList == l) with
 | false => rfl
 | true => exact absurd (str_ext (by rw [beq_iff_eq.1 hc, Lib.toList_data])) h
open Vl
theorem vlow_any (t : Tk.Tok) (hs : t.2.1.size <= 90000) (A : Option Addr) (n cap : Nat) (w : World) : Calls Try.prog 52 #[prtV t A n cap] w (Sg (Ru.lowS t.2.1) w) := by
 obtain ⟨W0, hW, hb0, k0, _⟩ := boxed w t A n cap
 obtain ⟨p0, p1, p2, p3⟩ := four_cells k0
 have C : Hid (∀ W, Calls Try.prog 50 #[.string t.2.1] W (Sg (Ru.lowS t.2.1) W)) := Lib.hid fun W => rlower_any _ hs W
 have HB0 := Lib.hid hb0
 have HW := Lib.hid hW
 clear hb0 k0 hW
 go_enter Try.func52, Try.ntmps52
 go_upto_region 1 with fail
 rw [HW.out]
 clear HW
 go_wp2_with (go_at_call 50; ((with_reducible refine (C.out _).mono ?_); rintro e w1 ⟨rfl, b1⟩; have HB1 := Lib.hid (below_next HB0.out b1); clear b1))
 go_ret
 exact ⟨rfl, HB1.out⟩
theorem vnamed_any (t : Tk.Tok) (hs : t.2.1.size <= 90000) (A : Option Addr) (n cap : Nat) (w : World) : Calls Try.prog 43 #[prtV t A n cap] w (Bo (nam t) w) := by
 obtain ⟨W0, hW, hb0, k0, hlt⟩ := boxed w t A n cap
 obtain ⟨p0, p1, p2, p3⟩ := four_cells k0
 have C : Hid (∀ W, Calls Try.prog 52 #[prtV t A n cap] W (Sg (Ru.lowS t.2.1) W)) := Lib.hid fun W => vlow_any t hs A n cap W
 have HN : Hid (nam t = decide (t.1 = 2 /\ Ru.lowS t.2.1 ≠ wNone /\ Ru.lowS t.2.1 ≠ wAuto /\ Ru.lowS t.2.1 ≠ wInitial /\ Ru.lowS t.2.1 ≠ wInherit)) := Lib.hid rfl
 have HB0 := Lib.hid hb0
 have HW := Lib.hid hW
 clear hb0 k0 hW hs
 obtain ⟨kd, tx, num⟩ := t
 simp only at *
 generalize nam (kd, tx, num) = res at *
 generalize Ru.lowS tx = ls at *
 by_cases h2 : kd = 2
 ·subst h2
  by_cases c0 : ls = wNone
  ·have e0 := str_yesL [110, 111, 110, 101] c0
   have HV : Hid (res = false) := Lib.hid (by rw [HN.out]; exact decide_eq_false (fun c => c.2.1 c0))
   clear HN c0
   go_enter Try.func43, Try.ntmps43
   go_upto_region 1 with fail
   rw [HW.out]
   clear HW
   go_wp2_with (go_at_call 52; ((with_reducible refine (C.out _).mono ?_); rintro e w1 ⟨rfl, b1⟩; have HB0 := Lib.hid (below_next HB0.out b1); have p0 := (b1.cell (p := ⟨w.heap.size, 0, none⟩) hlt).trans p0; have p1 := (b1.cell (p := ⟨w.heap.size, 1, none⟩) hlt).trans p1; have p2 := (b1.cell (p := ⟨w.heap.size, 2, none⟩) hlt).trans p2; have p3 := (b1.cell (p := ⟨w.heap.size, 3, none⟩) hlt).trans p3; have hlt := Nat.lt_of_lt_of_le hlt b1.size; clear b1))
   go_ret
   exact ⟨by rw [HV.out]; rfl, HB0.out⟩
  ·have e0 := str_noL [110, 111, 110, 101] c0
   by_cases c1 : ls = wAuto
   ·have e1 := str_yesL [97, 117, 116, 111] c1
    have HV : Hid (res = false) := Lib.hid (by rw [HN.out]; exact decide_eq_false (fun c => c.2.2.1 c1))
    clear HN c1 c0
    go_enter Try.func43, Try.ntmps43
    go_upto_region 1 with fail
    rw [HW.out]
    clear HW
    go_wp2_with (go_at_call 52; ((with_reducible refine (C.out _).mono ?_); rintro e w1 ⟨rfl, b1⟩; have HB0 := Lib.hid (below_next HB0.out b1); have p0 := (b1.cell (p := ⟨w.heap.size, 0, none⟩) hlt).trans p0; have p1 := (b1.cell (p := ⟨w.heap.size, 1, none⟩) hlt).trans p1; have p2 := (b1.cell (p := ⟨w.heap.size, 2, none⟩) hlt).trans p2; have p3 := (b1.cell (p := ⟨w.heap.size, 3, none⟩) hlt).trans p3; have hlt := Nat.lt_of_lt_of_le hlt b1.size; clear b1))
    go_ret
    exact ⟨by rw [HV.out]; rfl, HB0.out⟩
   ·have e1 := str_noL [97, 117, 116, 111] c1
    by_cases c2 : ls = wInitial
    ·have e2 := str_yesL [105, 110, 105, 116, 105, 97, 108] c2
     have HV : Hid (res = false) := Lib.hid (by rw [HN.out]; exact decide_eq_false (fun c => c.2.2.2.1 c2))
     clear HN c2 c0 c1
     go_enter Try.func43, Try.ntmps43
     go_upto_region 1 with fail
     rw [HW.out]
     clear HW
     go_wp2_with (go_at_call 52; ((with_reducible refine (C.out _).mono ?_); rintro e w1 ⟨rfl, b1⟩; have HB0 := Lib.hid (below_next HB0.out b1); have p0 := (b1.cell (p := ⟨w.heap.size, 0, none⟩) hlt).trans p0; have p1 := (b1.cell (p := ⟨w.heap.size, 1, none⟩) hlt).trans p1; have p2 := (b1.cell (p := ⟨w.heap.size, 2, none⟩) hlt).trans p2; have p3 := (b1.cell (p := ⟨w.heap.size, 3, none⟩) hlt).trans p3; have hlt := Nat.lt_of_lt_of_le hlt b1.size; clear b1))
     go_ret
     exact ⟨by rw [HV.out]; rfl, HB0.out⟩
    ·have e2 := str_noL [105, 110, 105, 116, 105, 97, 108] c2
     by_cases c3 : ls = wInherit
     ·have e3 := str_yesL [105, 110, 104, 101, 114, 105, 116] c3
      have HV : Hid (res = false) := Lib.hid (by rw [HN.out]; exact decide_eq_false (fun c => c.2.2.2.2 c3))
      clear HN c3 c0 c1 c2
      go_enter Try.func43, Try.ntmps43
      go_upto_region 1 with fail
      rw [HW.out]
      clear HW
      go_wp2_with (go_at_call 52; ((with_reducible refine (C.out _).mono ?_); rintro e w1 ⟨rfl, b1⟩; have HB0 := Lib.hid (below_next HB0.out b1); have p0 := (b1.cell (p := ⟨w.heap.size, 0, none⟩) hlt).trans p0; have p1 := (b1.cell (p := ⟨w.heap.size, 1, none⟩) hlt).trans p1; have p2 := (b1.cell (p := ⟨w.heap.size, 2, none⟩) hlt).trans p2; have p3 := (b1.cell (p := ⟨w.heap.size, 3, none⟩) hlt).trans p3; have hlt := Nat.lt_of_lt_of_le hlt b1.size; clear b1))
      go_ret
      exact ⟨by rw [HV.out]; rfl, HB0.out⟩
     ·have e3 := str_noL [105, 110, 104, 101, 114, 105, 116] c3
      have HV : Hid (res = true) := Lib.hid (by rw [HN.out]; exact decide_eq_true ⟨rfl, c0, c1, c2, c3⟩)
      clear HN c0 c1 c2 c3
      go_enter Try.func43, Try.ntmps43
      go_upto_region 1 with fail
      rw [HW.out]
      clear HW
      go_wp2_with (go_at_call 52; ((with_reducible refine (C.out _).mono ?_); rintro e w1 ⟨rfl, b1⟩; have HB0 := Lib.hid (below_next HB0.out b1); have p0 := (b1.cell (p := ⟨w.heap.size, 0, none⟩) hlt).trans p0; have p1 := (b1.cell (p := ⟨w.heap.size, 1, none⟩) hlt).trans p1; have p2 := (b1.cell (p := ⟨w.heap.size, 2, none⟩) hlt).trans p2; have p3 := (b1.cell (p := ⟨w.heap.size, 3, none⟩) hlt).trans p3; have hlt := Nat.lt_of_lt_of_le hlt b1.size; clear b1))
      go_ret
      exact ⟨by rw [HV.out]; rfl, HB0.out⟩
 ·have e2 : (kd == 2) = false := beq_false_of_ne h2
  have HV : Hid (res = false) := Lib.hid (by rw [HN.out]; exact decide_eq_false (fun c => h2 c.1))
  clear HN h2
  go_enter Try.func43, Try.ntmps43
  go_upto_region 1 with fail
  rw [HW.out]
  clear HW
  go_wp2_with (go_at_call 52; ((with_reducible refine (C.out _).mono ?_); rintro e w1 ⟨rfl, b1⟩; have HB0 := Lib.hid (below_next HB0.out b1); have p0 := (b1.cell (p := ⟨w.heap.size, 0, none⟩) hlt).trans p0; have p1 := (b1.cell (p := ⟨w.heap.size, 1, none⟩) hlt).trans p1; have p2 := (b1.cell (p := ⟨w.heap.size, 2, none⟩) hlt).trans p2; have p3 := (b1.cell (p := ⟨w.heap.size, 3, none⟩) hlt).trans p3; have hlt := Nat.lt_of_lt_of_le hlt b1.size; clear b1))
  go_ret
  exact ⟨by rw [HV.out]; rfl, HB0.out⟩
theorem vident_any (t : Tk.Tok) (hs : t.2.1.size <= 90000) (A : Option Addr) (n cap : Nat) (c : ByteArray) (w : World) : Calls Try.prog 39 #[prtV t A n cap, .string c] w (Bo (decide (t.1 = 2 /\ Ru.lowS t.2.1 = c)) w) := by
 obtain ⟨W0, hW, hb0, k0, hlt⟩ := boxed w t A n cap
 obtain ⟨p0, p1, p2, p3⟩ := four_cells k0
 have C : Hid (∀ W, Calls Try.prog 52 #[prtV t A n cap] W (Sg (Ru.lowS t.2.1) W)) := Lib.hid fun W => vlow_any t hs A n cap W
 have HB0 := Lib.hid hb0
 have HW := Lib.hid hW
 clear hb0 k0 hW hs
 obtain ⟨kd, tx, num⟩ := t
 simp only at *
 generalize Ru.lowS tx = ls at *
 by_cases h2 : kd = 2
 ·subst h2
  have HV : Hid (decide ((2 : Int) = 2 /\ ls = c) = (ls.toList == c.toList)) := Lib.hid (by rw [str_same]; exact decide_eq_decide.2 ⟨fun h => h.2, fun h => ⟨rfl, h⟩⟩)
  go_enter Try.func39, Try.ntmps39
  go_upto_region 1 with fail
  rw [HW.out]
  clear HW
  go_wp2_with (go_at_call 52; ((with_reducible refine (C.out _).mono ?_); rintro e w1 ⟨rfl, b1⟩; have HB0 := Lib.hid (below_next HB0.out b1); clear b1))
  go_ret
  exact ⟨by rw [HV.out]; rfl, HB0.out⟩
 ·have e2 : (kd == 2) = false := beq_false_of_ne h2
  have HV : Hid (decide (kd = 2 /\ ls = c) = false) := Lib.hid (decide_eq_false (fun c => h2 c.1))
  clear h2
  go_enter Try.func39, Try.ntmps39
  go_upto_region 1 with fail
  rw [HW.out]
  clear HW
  go_wp2_with fail
  go_ret
  exact ⟨by rw [HV.out]; rfl, HB0.out⟩
end Go.Proofs.Ytaofkaehhikfaaa
namespace Go.Proofs.Ytaofkaehhikfaaa
open Go.RowKit Vl
theorem tk_mem {ts : List Tk.Tok} {j : Nat} (h : j < ts.length) : Tk.tk ts j ∈ ts := by rw [Tk.tk_eq h]; exact List.getElem_mem h
theorem cword_any (l : List Tk.Tok) (hm : l.length <= 1000) (hs : ∀ x ∈ l, x.2.1.size <= 90000) (A : Option Addr) (cap : Nat) (w : World) (h : Ts w w.heap.size A l) :
 Calls Try.prog 35 #[.slice A l.length cap] w (Sg (wrd l) w) := by
 by_cases h1 : l.length = 1
 ·obtain ⟨t, rfl⟩ : ∃ t, l = [t] := by
   match l, h1 with
   | [t], _ => exact ⟨t, rfl⟩
  obtain ⟨b, off, rfl, hb, hp⟩ := h (by simp)
  obtain ⟨q0, q1, q2⟩ := hp 0 (by simp)
  obtain ⟨kd, tx, num⟩ := t
  have hsz := hs (kd, tx, num) (by simp)
  have C : Hid (∀ W, Calls Try.prog 47 #[.string tx] W (Sg (Ru.lowS tx) W)) := Lib.hid fun W => lower_any tx W hsz
  have q0' : w.cell? ⟨b, off, none⟩ = some (.int .i64 kd) := q0
  have q1' : w.cell? ⟨b, off + 1, none⟩ = some (.string tx) := q1
  clear hp hs q0 q1 q2 h h1
  show Calls _ _ #[.slice (some ⟨b, off, none⟩) 1 cap] _ _
  by_cases h2 : kd = 2
  ·have HV : Hid (wrd [(kd, tx, num)] = Ru.lowS tx) := Lib.hid (wrd_one h2)
   have e2 : (kd != 2) = false := by simp [h2]
   clear h2
   go_enter Try.func35, Try.ntmps35
   go_wp2_with (go_at_call 47; ((with_reducible refine (C.out _).mono ?_); rintro e w1 ⟨rfl, b1⟩; have HB1 := Lib.hid b1; clear b1))
   go_ret
   exact ⟨by rw [HV.out]; rfl, HB1.out⟩
  ·have HV : Hid (wrd [(kd, tx, num)] = ⟨#[]⟩) := Lib.hid (wrd_no fun t ht => by simp at ht; rw [<- ht]; exact h2)
   have e2 : (kd != 2) = true := bne_iff_ne.2 h2
   clear h2
   go_enter Try.func35, Try.ntmps35
   go_wp2_with fail
   go_ret
   exact ⟨by rw [HV.out]; rfl, Below.refl _ _⟩
 ·have HV : Hid (wrd l = ⟨#[]⟩) := Lib.hid (wrd_no fun t ht => absurd (by rw [ht]; rfl) h1)
  have e1 : ((l.length : Int) != 1) = true := bne_iff_ne.2 (by omega)
  clear h1 h
  go_enter Try.func35, Try.ntmps35
  go_wp2_with fail
  go_ret
  exact ⟨by rw [HV.out]; rfl, Below.refl _ _⟩
theorem cname_any (t : Tk.Tok) (hs : t.2.1.size <= 90000) (w : World) : Calls Try.prog 72 #[.agg #[.int .i64 t.1, .string t.2.1, .int .i64 t.2.2]] w (Bo (nam t) w) := by
 obtain ⟨kd, tx, num⟩ := t
 obtain ⟨W0, hW⟩ : ∃ W0, W0 = w.alloc (.cells #[.int .i64 kd, .string tx, .int .i64 num] 36) := ⟨_, rfl⟩
 have hb0 : Below w.heap.size w W0 := by rw [hW]; exact (Below.refl _ _).alloc (Nat.le_refl _) _
 have k0 : W0.heap[w.heap.size]? = some (.cells #[.int .i64 kd, .string tx, .int .i64 num] 36 (0, 0)) := by rw [hW]; exact heap_alloc_new w _
 obtain ⟨p0, p1, p2⟩ := tok3_cells k0
 have HB0 := Lib.hid hb0
 have HW := Lib.hid hW.symm
 have C : Hid (∀ W, Calls Try.prog 47 #[.string tx] W (Sg (Ru.lowS tx) W)) := Lib.hid fun W => lower_any tx W hs
 have HN : Hid (nam (kd, tx, num) = decide (kd = 2 /\ Ru.lowS tx ≠ wNone /\ Ru.lowS tx ≠ wAuto /\ Ru.lowS tx ≠ wInitial /\ Ru.lowS tx ≠ wInherit)) := Lib.hid rfl
 clear hb0 k0 hW hs
 simp only at *
 generalize nam (kd, tx, num) = res at *
 generalize Ru.lowS tx = ls at *
 by_cases h2 : kd = 2
 ·have e2 : (kd != 2) = false := by simp [h2]
  by_cases c0 : ls = wNone
  ·have e0' := str_yesL [110, 111, 110, 101] c0
   have HV : Hid (res = false) := Lib.hid (by rw [HN.out]; exact decide_eq_false (fun c => c.2.1 c0))
   clear HN h2 c0
   go_enter Try.func72, Try.ntmps72
   go_upto_region 1 with fail
   rw [HW.out]
   clear HW
   go_wp2_with (go_at_call 47; ((with_reducible refine (C.out _).mono ?_); rintro e w1 ⟨rfl, b1⟩; have HB0 := Lib.hid (below_next HB0.out b1); clear b1))
   go_ret
   exact ⟨by rw [HV.out]; rfl, HB0.out⟩
  ·have e0' := str_noL [110, 111, 110, 101] c0
   by_cases c1 : ls = wAuto
   ·have e1' := str_yesL [97, 117, 116, 111] c1
    have HV : Hid (res = false) := Lib.hid (by rw [HN.out]; exact decide_eq_false (fun c => c.2.2.1 c1))
    clear HN h2 c1 c0
    go_enter Try.func72, Try.ntmps72
    go_upto_region 1 with fail
    rw [HW.out]
    clear HW
    go_wp2_with (go_at_call 47; ((with_reducible refine (C.out _).mono ?_); rintro e w1 ⟨rfl, b1⟩; have HB0 := Lib.hid (below_next HB0.out b1); clear b1))
    go_ret
    exact ⟨by rw [HV.out]; rfl, HB0.out⟩
   ·have e1' := str_noL [97, 117, 116, 111] c1
    by_cases c2 : ls = wInitial
    ·have e2' := str_yesL [105, 110, 105, 116, 105, 97, 108] c2
     have HV : Hid (res = false) := Lib.hid (by rw [HN.out]; exact decide_eq_false (fun c => c.2.2.2.1 c2))
     clear HN h2 c2 c0 c1
     go_enter Try.func72, Try.ntmps72
     go_upto_region 1 with fail
     rw [HW.out]
     clear HW
     go_wp2_with (go_at_call 47; ((with_reducible refine (C.out _).mono ?_); rintro e w1 ⟨rfl, b1⟩; have HB0 := Lib.hid (below_next HB0.out b1); clear b1))
     go_ret
     exact ⟨by rw [HV.out]; rfl, HB0.out⟩
    ·have e2' := str_noL [105, 110, 105, 116, 105, 97, 108] c2
     by_cases c3 : ls = wInherit
     ·have e3' := str_yesL [105, 110, 104, 101, 114, 105, 116] c3
      have HV : Hid (res = false) := Lib.hid (by rw [HN.out]; exact decide_eq_false (fun c => c.2.2.2.2 c3))
      clear HN h2 c3 c0 c1 c2
      go_enter Try.func72, Try.ntmps72
      go_upto_region 1 with fail
      rw [HW.out]
      clear HW
      go_wp2_with (go_at_call 47; ((with_reducible refine (C.out _).mono ?_); rintro e w1 ⟨rfl, b1⟩; have HB0 := Lib.hid (below_next HB0.out b1); clear b1))
      go_ret
      exact ⟨by rw [HV.out]; rfl, HB0.out⟩
     ·have e3' := str_noL [105, 110, 104, 101, 114, 105, 116] c3
      have HV : Hid (res = true) := Lib.hid (by rw [HN.out]; exact decide_eq_true ⟨h2, c0, c1, c2, c3⟩)
      clear HN h2 c0 c1 c2 c3
      go_enter Try.func72, Try.ntmps72
      go_upto_region 1 with fail
      rw [HW.out]
      clear HW
      go_wp2_with (go_at_call 47; ((with_reducible refine (C.out _).mono ?_); rintro e w1 ⟨rfl, b1⟩; have HB0 := Lib.hid (below_next HB0.out b1); clear b1))
      go_ret
      exact ⟨by rw [HV.out]; rfl, HB0.out⟩
 ·have e2 : (kd != 2) = true := bne_iff_ne.2 h2
  have HV : Hid (res = false) := Lib.hid (by rw [HN.out]; exact decide_eq_false (fun c => h2 c.1))
  clear HN h2
  go_enter Try.func72, Try.ntmps72
  go_upto_region 1 with fail
  rw [HW.out]
  clear HW
  go_wp2_with fail
  go_ret
  exact ⟨by rw [HV.out]; rfl, HB0.out⟩
def ldT (l : List Tk.Tok) : Option (ByteArray × List Tk.Tok) := match l with
 | t :: r => if nam t = true then some (t.2.1, r) else none
 | [] => none
def LdYes (s : ByteArray) (r : List Tk.Tok) (w : World) (e : Ending) (w' : World) : Prop :=
 ∃ (A : Option Addr) (c : Nat), e = .returned (.tuple #[.string s, .slice A r.length c, .bool true]) /\ r.length <= c /\ Ts w' w'.heap.size A r /\ Below w.heap.size w w'
def LdNo (w : World) (e : Ending) (w' : World) : Prop := e = .returned (.tuple #[.string ⟨#[]⟩, .slice none 0 0, .bool false]) /\ Below w.heap.size w w'
def LdIs (o : Option (ByteArray × List Tk.Tok)) (w : World) (e : Ending) (w' : World) : Prop := (∀ s r, o = some (s, r) -> LdYes s r w e w') /\ (o = none -> LdNo w e w')
theorem ts_cdr {w : World} {B b off : Nat} {t : Tk.Tok} {r : List Tk.Tok} (h : Ts w B (some ⟨b, off, none⟩) (t :: r)) : Ts w B (some ⟨b, off + 3, none⟩) r := fun hr => by
 obtain ⟨b', off', e, hb, hc⟩ := h (by simp)
 injection e with e
 injection e with e1 e2
 subst e1 e2
 refine ⟨b, off + 3, rfl, hb, fun j hj => ?_⟩
 have := hc (j + 1) (by simp; omega)
 rw [show off + 3 + j * 3 = off + (j + 1) * 3 by omega]
 exact this
theorem cleading_any (l : List Tk.Tok) (hm : l.length <= 1000) (hs : ∀ x ∈ l, x.2.1.size <= 90000) (A : Option Addr) (cap : Nat) (hcap : l.length <= cap) (w : World) (h : Ts w w.heap.size A l) :
 Calls Try.prog 42 #[.slice A l.length cap] w (LdIs (ldT l) w) := by
 cases l with
 | nil =>
   clear h
   show Calls _ _ #[.slice A 0 cap] _ _
   go_enter Try.func42, Try.ntmps42
   go_wp2_with fail
   go_ret3
   exact ⟨fun s r h => (by cases h), fun _ => ⟨rfl, Below.refl _ _⟩⟩
 | cons t r =>
   obtain ⟨b, off, rfl, hb, hp⟩ := h (by simp)
   obtain ⟨q0, q1, q2⟩ := hp 0 (by simp)
   have C : Hid (∀ W, Calls Try.prog 72 #[.agg #[.int .i64 t.1, .string t.2.1, .int .i64 t.2.2]] W (Bo (nam t) W)) := Lib.hid fun W => cname_any t (hs t (by simp)) W
   have HT := Lib.hid (ts_cdr h)
   have HB := Lib.hid (Below.refl w.heap.size w)
   obtain ⟨kd, tx, num⟩ := t
   have q0' : w.cell? ⟨b, off, none⟩ = some (.int .i64 kd) := q0
   have q1' : w.cell? ⟨b, off + 1, none⟩ = some (.string tx) := q1
   have q2' : w.cell? ⟨b, off + 2, none⟩ = some (.int .i64 num) := q2
   have hl : r.length + 1 <= 1000 := hm
   have hc1 : r.length + 1 <= cap := hcap
   clear hp hs q0 q1 q2 h hm hcap
   have e0 : (((r.length + 1 : Nat) : Int) == 0) = false := beq_false_of_ne (by omega)
   show Calls _ _ #[.slice (some ⟨b, off, none⟩) (r.length + 1) cap] _ _
   cases hn : nam (kd, tx, num) with
   | false =>
     have HV : Hid (ldT ((kd, tx, num) :: r) = none) := Lib.hid (if_neg (by rw [hn]; simp))
     simp only [hn] at C
     clear hn
     go_enter Try.func42, Try.ntmps42
     go_wp2_with (go_at_call 72; ((with_reducible refine (C.out _).mono ?_); rintro e w1 ⟨rfl, b1⟩; have HB1 := Lib.hid b1; clear b1))
     go_ret3
     exact ⟨fun s r h => (by rw [HV.out] at h; cases h), fun _ => ⟨rfl, HB1.out⟩⟩
   | true =>
     have HV : Hid (ldT ((kd, tx, num) :: r) = some (tx, r)) := Lib.hid (if_pos hn)
     simp only [hn] at C
     clear hn
     by_cases hcc : cap = 1
     ·have hr0 : r.length = 0 := by omega
      have hr : r = [] := List.eq_nil_of_length_eq_zero hr0
      subst hr
      subst hcc
      clear hr0
      go_enter Try.func42, Try.ntmps42
      go_wp2_with (go_at_call 72; ((with_reducible refine (C.out _).mono ?_); rintro e w1 ⟨rfl, b1⟩; have HB1 := Lib.hid b1; have z1 := (b1.cell (p := ⟨b, off + 1, none⟩) hb).trans q1'; clear b1))
      go_quiet (fail)
      go_wp2_with fail
      go_ret3
      exact ⟨fun s r h => (by rw [HV.out] at h; cases h; exact ⟨_, _, rfl, Nat.le_refl _, fun h => absurd h (by simp), below_drewN HB1.out _⟩), fun h => (by rw [HV.out] at h; cases h)⟩
     ·go_enter Try.func42, Try.ntmps42
      go_wp2_with (go_at_call 72; ((with_reducible refine (C.out _).mono ?_); rintro e w1 ⟨rfl, b1⟩; have HB1 := Lib.hid b1; have HT1 := Lib.hid (HT.out.next b1); have z1 := (b1.cell (p := ⟨b, off + 1, none⟩) hb).trans q1'; clear b1))
      go_quiet (fail)
      go_wp2_with fail
      go_ret3
      exact ⟨fun s r h => (by rw [HV.out] at h; cases h; exact ⟨_, _, rfl, (by omega), HT1.out, below_drewN HB1.out _⟩), fun h => (by rw [HV.out] at h; cases h)⟩
end Go.Proofs.Ytaofkaehhikfaaa
namespace Go.Proofs.Ytaofkaehhikfaaa
open Go.RowKit
namespace Vl
def MapS (w : World) (M : Nat) (l : List (ByteArray × Value)) : Prop :=
 ∃ es clock, w.heap[M]? = some (.map es clock) /\ es.toList.map (fun e => (e.key, e.val)) = l.map fun p => (Value.string p.1, p.2)
section
variable {P : Program} {w w1 : World} {M : Nat} {l : List (ByteArray × Value)}
theorem MapS.made (w : World) : MapS (w.alloc (.map #[] 0)) w.heap.size [] := ⟨#[], 0, (MapKept.heap_alloc w _).1, rfl⟩
theorem MapS.lt (h : MapS w M l) : M < w.heap.size := by
 obtain ⟨es, clock, hb, _⟩ := h
 exact (Array.getElem?_eq_some_iff.1 hb).1
theorem MapS.below {B : Nat} (h : MapS w M l) (hM : M < B) (hb : Below B w w1) : MapS w1 M l := by
 obtain ⟨es, clock, h1, h2⟩ := h
 exact ⟨es, clock, (hb.block M hM).trans h1, h2⟩
theorem MapS.next (h : MapS w M l) (hb : Below w.heap.size w w1) : MapS w1 M l := h.below h.lt hb
theorem findNow_str (s : ByteArray) : ∀ (es : List MapEntry) (l : List (ByteArray × Value)) (i : Nat), es.map (fun e => (e.key, e.val)) = l.map (fun p => (Value.string p.1, p.2)) ->
 ∃ j, Instr.findNow .string (.string s) es i = some ((look l s).map fun v => (j, v))
 | [], [], i, _ => ⟨i, rfl⟩
 | [], p :: l, i, h => by cases h
 | e :: es, [], i, h => by cases h
 | e :: es, p :: l, i, h => by
   simp only [List.map_cons, List.cons.injEq, Prod.mk.injEq] at h
   obtain ⟨⟨h1, h2⟩, h3⟩ := h
   rw [Instr.findNow, h1]
   by_cases hp : p.1 = s
   ·refine ⟨i, ?_⟩
    have hs : (s == p.1) = true := (MapKept.bytes_beq s p.1).2 hp.symm
    simp only [Instr.sameNow, hs]
    rw [look, if_pos hp, h2]; rfl
   ·have hs : (s == p.1) = false := by
     cases hc : (s == p.1) with
     | false => rfl
     | true => exact absurd ((MapKept.bytes_beq s p.1).1 hc).symm hp
    obtain ⟨j, hj⟩ := findNow_str s es l (i + 1) h3
    refine ⟨j, ?_⟩
    simp only [Instr.sameNow, hs]
    rw [look, if_neg hp]; exact hj
theorem findKey_str {k : TypeId} (hk : P.underlying k = some .string) (w : World) (s : ByteArray) {es : List MapEntry} (h : es.map (fun e => (e.key, e.val)) = l.map (fun p => (Value.string p.1, p.2))) :
 ∃ j, (Instr.findKey k (.string s) es).run P w = .ok ((look l s).map fun v => (j, v)) w := by
 obtain ⟨j, hj⟩ := findNow_str s es l 0 h
 refine ⟨j, ?_⟩
 exact MapKept.run_findKey hk hj
theorem checkKey_str {k : TypeId} (hk : P.underlying k = some .string) (w : World) (em : Bool) (s : ByteArray) : (Instr.checkKey em 10000 k (.string s)).run P w = .ok () w := by
 exact MapKept.run_checkKey hk (by simp [MapKept.IsKey]) em 9999
theorem MapS.lookup {t k e : TypeId} (h : MapS w M l) (ht : P.underlying t = some (.map k e)) (hk : P.underlying k = some .string) {z : Value} (hz : (zeroValue e).run P w = .ok z w) (s : ByteArray) :
 (Instr.lookup t (.map (some M)) (.string s) true).run P w = .ok (match look l s with | some v => .tuple #[v, .bool true] | none => .tuple #[z, .bool false]) w := by
 obtain ⟨es, clock, hb, he⟩ := h
 obtain ⟨j, hj⟩ := findKey_str hk w s he
 cases hl : look l s with
 | none =>
   rw [hl] at hj
   simp [Instr.lookup, run_underlying ht, MapKept.run_getObj_map hb, checkKey_str hk, hj, hz, Result.andThen]
 | some v =>
   rw [hl] at hj
   simp [Instr.lookup, run_underlying ht, MapKept.run_getObj_map hb, checkKey_str hk, hj, Result.andThen]
theorem wpList_lookS {ops : Array Oper} {rest : List Oper} {o : Oper} {a : Act} {Q : Exit -> Act -> World -> Prop} (hg : o.guard = none) (m x : Operand) (t : TypeId) (hop : o.op = Op.lookup t m x true)
 (k e : TypeId) (ht : P.underlying t = some (.map k e)) (hk : P.underlying k = some .string) (z : Value) (hz : (zeroValue e).run P w = .ok z w) (M : Nat) (l : List (ByteArray × Value)) (hm : a.eval m = .map (some M)) (h : MapS w M l) (s : ByteArray) (hx : a.eval x = .string s)
 (v : Value) (b : Bool) (hv : look l s = if b = true then some v else none) (hv0 : b = false -> v = z)
 (hK : wpList P ops Q rest (a.put o.dst (.tuple #[v, .bool b])) w) : wpList P ops Q (o :: rest) a w := by
 refine wpList_plain hg fun K' hK' => ?_
 have hrun := h.lookup ht hk hz s
 have hr : (match look l s with | some v => Value.tuple #[v, .bool true] | none => Value.tuple #[z, .bool false]) = .tuple #[v, .bool b] := by
  rw [hv]
  cases b with
  | true => rfl
  | false => rw [hv0 rfl]; rfl
 rw [hr] at hrun
 unfold Oper.wp
 simp [execOp, hop, hm, hx, hrun, Result.andThen]
 exact hK' _ _ hK
theorem look_app {α : Type} {l : List (ByteArray × α)} {k : ByteArray} (h : look l k = none) : ∀ p ∈ l, p.1 ≠ k := by
 induction l with
 | nil => intro p hp; cases hp
 | cons q r ih =>
   rw [look] at h
   split at h
   ·cases h
   ·rename_i hq
    intro p hp
    rcases List.mem_cons.1 hp with rfl | hp
    ·exact hq
    ·exact ih h p hp
theorem MapS.insert {t k e : TypeId} (h : MapS w M l) (ht : P.underlying t = some (.map k e)) (hk : P.underlying k = some .string) (s : ByteArray) (v : Value) (hn : look l s = none) :
 ∃ w', (Instr.mapUpdate t (.map (some M)) (.string s) v).run P w = .ok () w' /\ MapS w' M (l ++ [(s, v)]) /\ ∀ B a, B <= M -> Below B a w -> Below B a w' := by
 obtain ⟨es, clock, hb, he⟩ := h
 obtain ⟨j, hj⟩ := findKey_str hk w s he
 rw [hn] at hj
 refine ⟨ChangeMaps.setBlock w M (.map (es.push ⟨.string s, v, clock⟩) (clock + 1)), ?_, ⟨_, _, ChangeMaps.heap_setBlock_same hb _, ?_⟩, ?_⟩
 ·simp [Instr.mapUpdate, run_underlying ht, MapKept.run_getObj_map hb, checkKey_str hk, hj, MapKept.run_setObj_map _ hb, Result.andThen, ChangeMaps.setBlock]
 ·rw [Array.toList_push, List.map_append, he, List.map_append]; rfl
 ·intro B a hB hb'
  exact hb'.trans ⟨rfl, rfl, rfl, by simp [ChangeMaps.setBlock], fun i hi => ChangeMaps.heap_setBlock_other hb _ (by omega)⟩
theorem wpList_insS {ops : Array Oper} {rest : List Oper} {o : Oper} {a : Act} {Q : Exit -> Act -> World -> Prop} (hg : o.guard = none) (hd : o.dst = none) (m x v : Operand) (t : TypeId) (hop : o.op = Op.insert t m x v)
 (k e : TypeId) (ht : P.underlying t = some (.map k e)) (hk : P.underlying k = some .string) (M : Nat) (l : List (ByteArray × Value)) (hm : a.eval m = .map (some M)) (h : MapS w M l) (s : ByteArray) (hx : a.eval x = .string s) (y : Value) (hy : a.eval v = y)
 (hn : look l s = none) (hK : ∀ w', MapS w' M (l ++ [(s, y)]) -> (∀ B b, B <= M -> Below B b w -> Below B b w') -> wpList P ops Q rest a w') : wpList P ops Q (o :: rest) a w := by
 refine wpList_plain hg fun K' hK' => ?_
 obtain ⟨w', hrun, h1, h2⟩ := h.insert ht hk s y hn
 unfold Oper.wp
 simp [execOp, hop, hm, hx, hy, hrun, Result.andThen, Oper.upon, hd]
 exact hK' _ _ (hK w' h1 h2)
end
end Vl
end Go.Proofs.Ytaofkaehhikfaaa
namespace Go.Proofs.Ytaofkaehhikfaaa
open Go.RowKit Vl
def OnIs (o : Option ByteArray) (w : World) (e : Ending) (w' : World) : Prop := ∃ (s : ByteArray) (b : Bool), e = .returned (.tuple #[.string s, .bool b]) /\ Below w.heap.size w w' /\ (b = false -> s = ⟨#[]⟩) /\ o = if b = true then some s else none
def onT : Option (ByteArray × List Tk.Tok) -> Option ByteArray
 | some (s, []) => some s
 | _ => none
theorem only_ld (l : List Tk.Tok) : only l = onT (ldT l) := by
 match l with
 | [] => rfl
 | [x] =>
   show (if nam x = true then some x.2.1 else none) = onT (if nam x = true then some (x.2.1, []) else none)
   by_cases h : nam x = true
   ·rw [if_pos h, if_pos h]; rfl
   ·rw [if_neg h, if_neg h]; rfl
 | x :: y :: r =>
   show none = onT (if nam x = true then some (x.2.1, y :: r) else none)
   by_cases h : nam x = true
   ·rw [if_pos h]; rfl
   ·rw [if_neg h]; rfl
theorem ldT_len {l r : List Tk.Tok} {s : ByteArray} (h : ldT l = some (s, r)) : r.length + 1 = l.length /\ (∀ x ∈ r, x ∈ l) := by
 match l with
 | [] => cases h
 | x :: q =>
   have h' : (if nam x = true then some (x.2.1, q) else none) = some (s, r) := h
   split at h'
   ·cases h'
    exact ⟨rfl, fun y hy => List.mem_cons_of_mem _ hy⟩
   ·cases h'
theorem conly_any (l : List Tk.Tok) (hm : l.length <= 1000) (hs : ∀ x ∈ l, x.2.1.size <= 90000) (A : Option Addr) (cap : Nat) (hcap : l.length <= cap) (w : World) (h : Ts w w.heap.size A l) :
 Calls Try.prog 53 #[.slice A l.length cap] w (OnIs (only l) w) := by
 have C := cleading_any l hm hs A cap hcap w h
 have HV := Lib.hid (only_ld l)
 generalize only l = res at *
 cases hl : ldT l with
 | none =>
   have C2 : Hid (Calls Try.prog 42 #[.slice A l.length cap] w (LdNo w)) := Lib.hid (C.mono fun e w' h => h.2 hl)
   rw [hl] at HV
   clear C hl h hs
   go_enter Try.func53, Try.ntmps53
   go_wp2_with (go_at_call 42; ((with_reducible refine (C2.out).mono ?_); rintro e w1 ⟨rfl, b1⟩; have HB1 := Lib.hid b1; clear b1))
   go_ret2
   exact ⟨⟨#[]⟩, false, rfl, HB1.out, fun _ => rfl, HV.out⟩
 | some p =>
   obtain ⟨s, r⟩ := p
   have C2 : Hid (Calls Try.prog 42 #[.slice A l.length cap] w (LdYes s r w)) := Lib.hid (C.mono fun e w' h => h.1 s r hl)
   rw [hl] at HV
   have hrl := (ldT_len hl).1
   clear C hl h hs
   cases r with
   | nil =>
     go_enter Try.func53, Try.ntmps53
     go_wp2_with (go_at_call 42; ((with_reducible refine (C2.out).mono ?_); rintro e w1 ⟨A1, c1, rfl, hc1, T1, b1⟩; have HB1 := Lib.hid b1; clear b1 T1))
     go_ret2
     exact ⟨s, true, rfl, HB1.out, fun h => (by cases h), HV.out⟩
   | cons x r =>
     have hpos : (0 : Int) < ((x :: r).length : Int) := by simp
     go_enter Try.func53, Try.ntmps53
     go_wp2_with (go_at_call 42; ((with_reducible refine (C2.out).mono ?_); rintro e w1 ⟨A1, c1, rfl, hc1, T1, b1⟩; have HB1 := Lib.hid b1; clear b1 T1))
     go_ret2
     exact ⟨⟨#[]⟩, false, rfl, HB1.out, fun _ => rfl, HV.out⟩
def numT (ws : List (ByteArray × Int)) : List (ByteArray × Value) := ws.map fun p => (p.1, .int .i64 p.2)
theorem look_numT (ws : List (ByteArray × Int)) (s : ByteArray) : Vl.look (numT ws) s = (Vl.look ws s).map (Value.int .i64) := by
 induction ws with
 | nil => rfl
 | cons p r ih =>
   show (if p.1 = s then some (Value.int .i64 p.2) else Vl.look (numT r) s) = (if p.1 = s then some p.2 else Vl.look r s).map (Value.int .i64)
   by_cases h : p.1 = s
   ·rw [if_pos h, if_pos h]; rfl
   ·rw [if_neg h, if_neg h, ih]
theorem zero_int (w : World) : (zeroValue 3).run Try.prog w = .ok (.int .i64 0) w := by kernel_rfl
def LaIs (o : Option Int) (w : World) (e : Ending) (w' : World) : Prop := ∃ (n : Int) (b : Bool), e = .returned (.tuple #[.int .i64 n, .bool b]) /\ Below w.heap.size w w' /\ (b = false -> n = 0) /\ o = if b = true then some n else none
theorem clast_any (r : List Tk.Tok) (ws : List (ByteArray × Int)) (u : Int) (hm : r.length <= 1000) (hs : ∀ x ∈ r, x.2.1.size <= 90000) (A : Option Addr) (cap M : Nat) (w : World) (h : Ts w w.heap.size A r) (hM : MapS w M (numT ws)) :
 Calls Try.prog 83 #[.slice A r.length cap, .map (some M), .int .i64 u] w (LaIs (lst r ws u) w) := by
 by_cases h0 : r = []
 ·have HV : Hid (lst r ws u = some u) := Lib.hid (if_pos h0)
  have e0 : ((r.length : Int) == 0) = true := by rw [h0]; rfl
  clear h h0 hs hM
  go_enter Try.func83, Try.ntmps83
  go_wp2_with fail
  go_ret2
  exact ⟨u, true, rfl, Below.refl _ _, fun h => (by cases h), HV.out⟩
 ·have HV : Hid (lst r ws u = Vl.look ws (wrd r)) := Lib.hid (if_neg h0)
  have e0 : ((r.length : Int) == 0) = false := beq_false_of_ne (fun c => h0 (List.eq_nil_of_length_eq_zero (by omega)))
  have C : Hid (Calls Try.prog 35 #[.slice A r.length cap] w (Sg (wrd r) w)) := Lib.hid (cword_any r hm hs A cap w h)
  have HM := Lib.hid hM
  have HL := Lib.hid (look_numT ws (wrd r))
  clear h h0 hs hM
  generalize wrd r = s at *
  cases hl : Vl.look ws s with
  | none =>
    rw [hl] at HL HV
    clear hl
    go_enter Try.func83, Try.ntmps83
    go_wp2_with (first | (go_at_call 35; ((with_reducible refine (C.out).mono ?_); rintro e w1 ⟨rfl, b1⟩; have HB1 := Lib.hid b1; have HM1 := Lib.hid (HM.out.next b1); clear b1)) | (at_lookup; refine wpList_lookS rfl _ _ 93 rfl 9 3 Try.underlying93 Try.underlying9 (.int .i64 0) (zero_int _) M _ rfl HM1.out s rfl (.int .i64 0) false HL.out (fun _ => rfl) ?_))
    go_ret2
    exact ⟨0, false, rfl, HB1.out, fun _ => rfl, HV.out⟩
  | some n =>
    rw [hl] at HL HV
    clear hl
    go_enter Try.func83, Try.ntmps83
    go_wp2_with (first | (go_at_call 35; ((with_reducible refine (C.out).mono ?_); rintro e w1 ⟨rfl, b1⟩; have HB1 := Lib.hid b1; have HM1 := Lib.hid (HM.out.next b1); clear b1)) | (at_lookup; refine wpList_lookS rfl _ _ 93 rfl 9 3 Try.underlying93 Try.underlying9 (.int .i64 0) (zero_int _) M _ rfl HM1.out s rfl (.int .i64 n) true HL.out (fun h => (by cases h)) ?_))
    go_ret2
    exact ⟨n, true, rfl, HB1.out, fun h => (by cases h), HV.out⟩
def MpIs (l : List (ByteArray × Value)) (w : World) (e : Ending) (w' : World) : Prop := ∃ M, e = .returned (.map (some M)) /\ MapS w' M l /\ Below w.heap.size w w' /\ w.heap.size <= M
theorem cstyles_any (w : World) : Calls Try.prog 57 #[] w (MpIs (numT styles) w) := by
 have hmm := @run_makeMap Try.prog
 have HM := Lib.hid (MapS.made w)
 have HB : Hid (Below w.heap.size w (w.alloc (.map #[] 0))) := Lib.hid ((Below.refl _ _).alloc (Nat.le_refl _) _)
 go_enter Try.func57, Try.ntmps57
 go_wp2_with (refine wpList_insS rfl rfl _ _ _ _ rfl 9 3 Try.underlying93 Try.underlying9 w.heap.size _ rfl HM.out _ rfl _ rfl (by rfl) ?_; intro w' h1 h2; have HM := Lib.hid h1; have HB := Lib.hid (h2 _ _ (Nat.le_refl _) HB.out); clear h1 h2)
 go_ret
 exact ⟨_, rfl, HM.out, HB.out, Nat.le_refl _⟩
theorem cwhich_any (w : World) : Calls Try.prog 85 #[] w (MpIs (numT whichs) w) := by
 have hmm := @run_makeMap Try.prog
 have HM := Lib.hid (MapS.made w)
 have HB : Hid (Below w.heap.size w (w.alloc (.map #[] 0))) := Lib.hid ((Below.refl _ _).alloc (Nat.le_refl _) _)
 go_enter Try.func85, Try.ntmps85
 go_wp2_with (refine wpList_insS rfl rfl _ _ _ _ rfl 9 3 Try.underlying93 Try.underlying9 w.heap.size _ rfl HM.out _ rfl _ rfl (by rfl) ?_; intro w' h1 h2; have HM := Lib.hid h1; have HB := Lib.hid (h2 _ _ (Nat.le_refl _) HB.out); clear h1 h2)
 go_ret
 exact ⟨_, rfl, HM.out, HB.out, Nat.le_refl _⟩
end Go.Proofs.Ytaofkaehhikfaaa
namespace Go.Proofs.Ytaofkaehhikfaaa
open Go.RowKit
namespace Ns
def okp (ts : List Tk.Tok) (fr tz : Int) : Prop := 0 <= fr /\ fr <= tz /\ tz <= ts.length
instance (ts : List Tk.Tok) (fr tz : Int) : Decidable (okp ts fr tz) := by unfold okp; infer_instance
def fndR (ts : List Tk.Tok) (fr tz kd : Int) : Int := if okp ts fr tz then fnd (isK ts kd) (plc (ends ts) tz.toNat fr.toNat) else -1
def splR (ts : List Tk.Tok) (fr tz kd : Int) : List (Nat × Nat) := if okp ts fr tz then spl (isK ts kd) tz.toNat (plc (ends ts) tz.toNat fr.toNat) fr.toNat else []
def trR (ts : List Tk.Tok) (fr tz : Int) : Int × Int := if okp ts fr tz then ((trA ts tz.toNat fr.toNat : Nat), (trB ts (trA ts tz.toNat fr.toNat) tz.toNat : Nat)) else (fr, tz)
end Ns
def EndsC : Prop := ∀ (ts : List Tk.Tok), ts.length <= 20000 -> ∀ (A : Option Addr) (cap : Nat), ts.length <= cap -> ∀ w, Ts w w.heap.size A ts -> Calls Try.prog 62 #[.slice A ts.length cap] w (EndsIs ts w)
def SkipC : Prop := ∀ (es : List Int), Ns.Fit es -> Ns.Lead es -> ∀ (A : Option Addr) (cap : Nat) (a : Int), (-1152921504606846976 <= a /\ a <= 1152921504606846976) -> ∀ w, Bs w w.heap.size .i64 A es -> Calls Try.prog 55 #[.slice A es.length cap, .int .i64 a] w (Nu (Ns.skp es a) w)
def SplitC : Prop := ∀ (ts : List Tk.Tok), ts.length <= 20000 -> ∀ (A C : Option Addr) (ca cc : Nat), ts.length <= ca -> (Ns.ends ts).length <= cc -> ∀ (fr tz kd : Int), I64 fr -> I64 tz -> ∀ w, Ts w w.heap.size A ts -> Bs w w.heap.size .i64 C (Ns.ends ts) ->
 Calls Try.prog 45 #[.slice A ts.length ca, .slice C (Ns.ends ts).length cc, .int .i64 fr, .int .i64 tz, .int .i64 kd] w (ToldP (Ns.splR ts fr tz kd) w)
end Go.Proofs.Ytaofkaehhikfaaa
