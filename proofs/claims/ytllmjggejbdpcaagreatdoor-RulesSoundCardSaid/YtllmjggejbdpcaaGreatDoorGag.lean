/-
  The walks of package rules' part, and of a sheet's part and name.
-/
import Derived.Test.YtllmjggejbdpcaaGreatDoorGaf
import Derived.Test.YtllmjggejbdpcaaGreatDoorGae
import Derived.Maps.AppendAt
import Derived.Deep.Cut
import Derived.Deep.CutRange
import Derived.Deep.DeepCutAuto
import Derived.LoopTactic
import Derived.IntWalk
import Derived.Deep.RegionHeld3
import Derived.Stop.LaidErr
import Derived.Deep.RegionWith
import Derived.Deep.QuietTactic
import Derived.BigQuiet
set_option maxHeartbeats 16000000
set_option maxRecDepth 100000
namespace Go.Proofs.YtllmjggejbdpcaaGreatDoor
open Go.RowKit
abbrev shV (A : Option Addr) (n ca : Nat) (C : Option Addr) (m cc : Nat) : Value := .agg #[.slice A n ca, .slice C m cc]
structure Sh (ts : List Tk.Tok) (A : Option Addr) (ca : Nat) (C : Option Addr) (w : World) : Prop where
 hts : Ts w w.heap.size A ts
 hes : Bs w w.heap.size .i64 C (Ns.ends ts)
 hca : ts.length <= ca
theorem Sh.next {ts : List Tk.Tok} {A C : Option Addr} {ca : Nat} {w w1 : World} (h : Sh ts A ca C w) (hb : Below w.heap.size w w1) : Sh ts A ca C w1 := ⟨h.hts.next hb, h.hes.next hb, h.hca⟩
theorem sh_cells {w : World} {k : Nat} {x0 x1 : Value} {E : TypeId} (h : w.heap[k]? = some (.cells #[x0, x1] E (0, 0))) : w.cell? ⟨k, 0, none⟩ = some x0 /\ w.cell? ⟨k, 1, none⟩ = some x1 := by
 refine ⟨?_, ?_⟩ <;> simp [World.cell?, h]
theorem tk_size {ts : List Tk.Tok} (hF : Pr.FairB ts) {a : Nat} (ha : a < ts.length) : (Tk.tk ts a).2.1.size <= 90000 := hF.2 a ha
theorem part_any (ts : List Tk.Tok) (hm : ts.length <= 65536) (A : Option Addr) (ca : Nat) (hca : ts.length <= ca) (x y : Nat) (hxy : x <= y) (hy : y <= ts.length) (w : World) (h : Ts w w.heap.size A ts) :
 Calls Tryz.prog 165 #[.slice A ts.length ca, .int .i64 x, .int .i64 y] w (ToldT (Rl.sub ts x y) w) := by
 have H := Lib.hid h
 clear h
 have hxc : x <= ca := by omega
 have hyc : y <= ca := by omega
 obtain ⟨A2, hsl, hT⟩ := cut_run ts A ca x y hxy hy hca
 have HT := Lib.hid hT
 have hsn : (Rl.sub ts x y).length = y - x := Rl.sub_len (by omega)
 have h63 : 0 + (y - x) <= maxLen := by unfold maxLen; omega
 have hby : (0 + (y - x)) * 32 <= 140737488355328 := by omega
 obtain ⟨i0, hi, hz0, hz1, hz2⟩ := info_parts Tryz.infoTok
 have HSN := Lib.hid hsn
 have CR : Hid (∀ W, Below w.heap.size w W -> Rdc W A2 (y - x) 3 (Tk.cells (Rl.sub ts x y))) := Lib.hid fun W hb => by
  have := Rdc.of_ts (HT.out _ _ (H.out.next hb))
  rwa [HSN.out] at this
 have HO : Hid (Ow 70 3 w (.slice none 0 0) 0 [] w) := Lib.hid (Ow.start _ _ (Below.refl _ _))
 clear hT hsn
 go_enter Tryz.func165, Tryz.ntmps165
 go_wp2_with (at_builtin; refine app_all rfl _ _ 32 rfl i0 zTok 32 Tryz.underlying32 hi hz0 hz1 hz2 rfl (by decide) rfl HO.out A2 (y - x) (ca - x) (Tk.cells (Rl.sub ts x y)) rfl (CR.out _ (Below.refl _ _)) (cells_ok _) h63 hby ?_; intro v' w3 H3; rw [Nat.zero_add, List.nil_append] at H3; have HO3 := Lib.hid H3; clear H3)
 go_ret
 obtain ⟨A9, c9, rfl, hc9⟩ := HO3.out.form
 have ho := HO3.out.own
 rw [<- HSN.out] at ho hc9 ⊢
 exact ⟨A9, c9, rfl, hc9, ⟨Ts.of_own ho, Rl.own_tyd ho⟩, HO3.out.bel⟩
theorem spart_any (ts : List Tk.Tok) (hm : ts.length <= 65536) (A C : Option Addr) (ca cc : Nat) (x y : Nat) (hxy : x <= y) (hy : y <= ts.length) (w : World) (h : Sh ts A ca C w) :
 Calls Tryz.prog 101 #[shV A ts.length ca C (Ns.ends ts).length cc, .int .i64 x, .int .i64 y] w (ToldT (Rl.sub ts x y) w) := by
 obtain ⟨W0, hW⟩ : ∃ W0, W0 = w.alloc (.cells #[.slice A ts.length ca, .slice C (Ns.ends ts).length cc] 58) := ⟨_, rfl⟩
 have hb0 : Below w.heap.size w W0 := by rw [hW]; exact (Below.refl _ _).alloc (Nat.le_refl _) _
 have k0 : W0.heap[w.heap.size]? = some (.cells #[.slice A ts.length ca, .slice C (Ns.ends ts).length cc] 58 (0, 0)) := by rw [hW]; exact heap_alloc_new w _
 obtain ⟨p0, p1⟩ := sh_cells k0
 have CP := Lib.hid (part_any ts hm A ca h.hca x y hxy hy W0 (h.next hb0).hts)
 have HB0 := Lib.hid hb0
 have HW := Lib.hid hW.symm
 clear hb0 k0 hW h
 generalize Rl.sub ts x y = us at *
 unfold shV
 go_enter Tryz.func101, Tryz.ntmps101
 go_upto_region 1 with fail
 rw [HW.out]
 clear HW
 go_wp2_with (go_at_call 165; ((with_reducible refine (CP.out).mono ?_); rintro e w1 ⟨A1, c1, rfl, hc1, T1, b1⟩; have HB1 := Lib.hid (below_next HB0.out b1); have HT := Lib.hid T1; clear b1 T1))
 go_ret
 exact ⟨A1, c1, rfl, hc1, HT.out, HB1.out⟩
theorem sname_any (ts : List Tk.Tok) (hF : Pr.FairB ts) (A C : Option Addr) (ca cc : Nat) (a : Nat) (ha : a < ts.length) (w : World) (h : Sh ts A ca C w) :
 Calls Tryz.prog 100 #[shV A ts.length ca C (Ns.ends ts).length cc, .int .i64 a] w (Sg (Ru.lowS (Tk.tk ts a).2.1) w) := by
 obtain ⟨W0, hW⟩ : ∃ W0, W0 = w.alloc (.cells #[.slice A ts.length ca, .slice C (Ns.ends ts).length cc] 58) := ⟨_, rfl⟩
 have hb0 : Below w.heap.size w W0 := by rw [hW]; exact (Below.refl _ _).alloc (Nat.le_refl _) _
 have k0 : W0.heap[w.heap.size]? = some (.cells #[.slice A ts.length ca, .slice C (Ns.ends ts).length cc] 58 (0, 0)) := by rw [hW]; exact heap_alloc_new w _
 obtain ⟨p0, p1⟩ := sh_cells k0
 have CP := Lib.hid (lower_any (Tk.tk ts a).2.1 W0 (tk_size hF ha))
 obtain ⟨b, off, rfl, hb, hc⟩ := (h.next hb0).hts (by omega)
 obtain ⟨q0, q1, q2⟩ := hc a ha
 have HB0 := Lib.hid hb0
 have HW := Lib.hid hW.symm
 have hm := hF.1
 clear hb0 k0 hW h hc hF
 generalize Ru.lowS (Tk.tk ts a).2.1 = lo at *
 generalize Tk.tk ts a = u at *
 unfold shV
 go_enter Tryz.func100, Tryz.ntmps100
 go_upto_region 1 with fail
 rw [HW.out]
 clear HW
 go_wp2_with (go_at_call 42; ((with_reducible refine (CP.out).mono ?_); rintro e w1 ⟨rfl, b1⟩; have HB1 := Lib.hid (below_next HB0.out b1); clear b1))
 go_ret
 exact ⟨rfl, HB1.out⟩
end Go.Proofs.YtllmjggejbdpcaaGreatDoor
namespace Go.Proofs.YtllmjggejbdpcaaGreatDoor
open Go.Lib Go.Joins Go.Deep
open Go.ChangeShapes Go.WideShapes Go.ChangeAt Go.RowKit Go.WideMaps Go.WideElems
open Go.ChangeMaps (setBlock shut_map_nil open_string shut_string)
namespace Rl
section
variable {H : Type} {enc : TypeId × Value -> H} {P : Program}
def BoolR (_ : World) (b : Bool) (cs : List Value) : Prop := cs = [.bool b]
variable {α β γ δ : Type} {Ra : World -> α -> List Value -> Prop} {Rb : World -> β -> List Value -> Prop} {Rc : World -> γ -> List Value -> Prop} {Rd : World -> δ -> List Value -> Prop}
def St2 (Ra : World -> α -> List Value -> Prop) (Rb : World -> β -> List Value -> Prop) (W : World) (u : α × β) (cs : List Value) : Prop := ∃ a b, cs = [a, b] /\ Ra W u.1 [a] /\ Rb W u.2 [b]
def St3 (Ra : World -> α -> List Value -> Prop) (Rb : World -> β -> List Value -> Prop) (Rc : World -> γ -> List Value -> Prop) (W : World) (u : α × β × γ) (cs : List Value) : Prop := ∃ a b c, cs = [a, b, c] /\ Ra W u.1 [a] /\ Rb W u.2.1 [b] /\ Rc W u.2.2 [c]
def St4 (Ra : World -> α -> List Value -> Prop) (Rb : World -> β -> List Value -> Prop) (Rc : World -> γ -> List Value -> Prop) (Rd : World -> δ -> List Value -> Prop) (W : World) (u : α × β × γ × δ) (cs : List Value) : Prop := ∃ a b c d, cs = [a, b, c, d] /\ Ra W u.1 [a] /\ Rb W u.2.1 [b] /\ Rc W u.2.2.1 [c] /\ Rd W u.2.2.2 [d]
def Cells (sz : Nat) (Ra : World -> α -> List Value -> Prop) (W : World) (A : Option Addr) (us : List α) : Prop :=
 0 < us.length -> ∃ b off, A = some ⟨b, off, none⟩ /\ b < W.heap.size /\ ∀ j (hj : j < us.length), ∃ cs, cs.length = sz /\ Ra W us[j] cs /\ ∀ i x, cs[i]? = some x -> W.cell? ⟨b, off + j * sz + i, none⟩ = some x
end
end Rl
end Go.Proofs.YtllmjggejbdpcaaGreatDoor
namespace Go.Proofs.YtllmjggejbdpcaaGreatDoor
open Go.RowKit
namespace Rl
open Tk
def IntQ (_ : World) (n : Int) (cs : List Value) : Prop := cs = [.int .i64 n]
def StrQ (_ : World) (s : ByteArray) (cs : List Value) : Prop := cs = [.string s]
def SlQ {α : Type} (oE : Option TypeId) (sz : Nat) (Ra : World -> α -> List Value -> Prop) (W : World) (us : List α) (cs : List Value) : Prop :=
 ∃ (A : Option Addr) (cap : Nat), cs = [.slice A us.length cap] /\ us.length <= cap /\ Cells sz Ra W A us /\ Tyd oE W A
def TokQ : World -> Tok -> List Value -> Prop := St3 IntQ StrQ IntQ
def ty (t : Bool) (E : TypeId) : Option TypeId := if t = true then some E else none
def Keeps {α : Type} (R : World -> α -> List Value -> Prop) : Prop := ∀ w w1 u cs, R w u cs -> Below w.heap.size w w1 -> R w1 u cs
section
variable {α β γ δ : Type} {Ra : World -> α -> List Value -> Prop} {Rb : World -> β -> List Value -> Prop} {Rc : World -> γ -> List Value -> Prop} {Rd : World -> δ -> List Value -> Prop}
theorem keeps_int : Keeps IntQ := fun _ _ _ _ h _ => h
theorem keeps_str : Keeps StrQ := fun _ _ _ _ h _ => h
theorem keeps_bool : Keeps BoolR := fun _ _ _ _ h _ => h
theorem keeps_st2 (ha : Keeps Ra) (hb : Keeps Rb) : Keeps (St2 Ra Rb) := fun _ _ _ _ ⟨a, b, e, h1, h2⟩ hw => ⟨a, b, e, ha _ _ _ _ h1 hw, hb _ _ _ _ h2 hw⟩
theorem keeps_st3 (ha : Keeps Ra) (hb : Keeps Rb) (hc : Keeps Rc) : Keeps (St3 Ra Rb Rc) := fun _ _ _ _ ⟨a, b, c, e, h1, h2, h3⟩ hw => ⟨a, b, c, e, ha _ _ _ _ h1 hw, hb _ _ _ _ h2 hw, hc _ _ _ _ h3 hw⟩
theorem keeps_st4 (ha : Keeps Ra) (hb : Keeps Rb) (hc : Keeps Rc) (hd : Keeps Rd) : Keeps (St4 Ra Rb Rc Rd) := fun _ _ _ _ ⟨a, b, c, d, e, h1, h2, h3, h4⟩ hw => ⟨a, b, c, d, e, ha _ _ _ _ h1 hw, hb _ _ _ _ h2 hw, hc _ _ _ _ h3 hw, hd _ _ _ _ h4 hw⟩
theorem cells_next {sz : Nat} (ha : Keeps Ra) {w w1 : World} {A : Option Addr} {us : List α} (h : Cells sz Ra w A us) (hw : Below w.heap.size w w1) : Cells sz Ra w1 A us := fun h0 => by
 obtain ⟨b, off, e, hb, hc⟩ := h h0
 refine ⟨b, off, e, Nat.lt_of_lt_of_le hb hw.size, fun j hj => ?_⟩
 obtain ⟨cs, h1, h2, h3⟩ := hc j hj
 exact ⟨cs, h1, ha _ _ _ _ h2 hw, fun i x hx => (hw.cell (p := ⟨b, off + j * sz + i, none⟩) hb).trans (h3 i x hx)⟩
theorem keeps_sl {oE : Option TypeId} {sz : Nat} (ha : Keeps Ra) : Keeps (SlQ oE sz Ra) := fun _ _ _ _ ⟨A, cap, e, hc, h, ht⟩ hw => ⟨A, cap, e, hc, cells_next ha h hw, tyd_next ht hw⟩
theorem keeps_tok : Keeps TokQ := keeps_st3 keeps_int keeps_str keeps_int
def Only (E : TypeId) (g : Option Nat) (w w1 : World) : Prop := w.heap.size <= w1.heap.size /\ ∀ (b : Nat) (cs : Array Value) (T : TypeId) (fz : Nat × Nat), w.heap[b]? = some (.cells cs T fz) -> T ≠ E ∨ g ≠ some b -> w1.heap[b]? = w.heap[b]?
def KeepsT (E : TypeId) {α : Type} (R : World -> α -> List Value -> Prop) : Prop := ∀ g w w1 u cs, R w u cs -> Only E g w w1 -> R w1 u cs
section
variable {E : TypeId}
theorem kT_int : KeepsT E IntQ := fun _ _ _ _ _ h _ => h
theorem kT_str : KeepsT E StrQ := fun _ _ _ _ _ h _ => h
theorem kT_bool : KeepsT E BoolR := fun _ _ _ _ _ h _ => h
theorem kT_st2 (ha : KeepsT E Ra) (hb : KeepsT E Rb) : KeepsT E (St2 Ra Rb) := fun _ _ _ _ _ ⟨a, b, e, h1, h2⟩ hw => ⟨a, b, e, ha _ _ _ _ _ h1 hw, hb _ _ _ _ _ h2 hw⟩
theorem kT_st3 (ha : KeepsT E Ra) (hb : KeepsT E Rb) (hc : KeepsT E Rc) : KeepsT E (St3 Ra Rb Rc) := fun _ _ _ _ _ ⟨a, b, c, e, h1, h2, h3⟩ hw => ⟨a, b, c, e, ha _ _ _ _ _ h1 hw, hb _ _ _ _ _ h2 hw, hc _ _ _ _ _ h3 hw⟩
theorem kT_st4 (ha : KeepsT E Ra) (hb : KeepsT E Rb) (hc : KeepsT E Rc) (hd : KeepsT E Rd) : KeepsT E (St4 Ra Rb Rc Rd) := fun _ _ _ _ _ ⟨a, b, c, d, e, h1, h2, h3, h4⟩ hw => ⟨a, b, c, d, e, ha _ _ _ _ _ h1 hw, hb _ _ _ _ _ h2 hw, hc _ _ _ _ _ h3 hw, hd _ _ _ _ _ h4 hw⟩
theorem kT_sl {E' : TypeId} {sz : Nat} (hne : E' ≠ E) (ha : KeepsT E Ra) : KeepsT E (SlQ (some E') sz Ra) := fun g w w1 us cs ⟨A, cap, e, hc, h, ht⟩ hw => by
 refine ⟨A, cap, e, hc, fun h0 => ?_, fun E1 hE b off hA => ?_⟩
 ·obtain ⟨b, off, hA, hb, hcell⟩ := h h0
  obtain ⟨ks, fz, hk⟩ := ht E' rfl b off hA
  have hsame := hw.2 b ks E' fz hk (.inl hne)
  refine ⟨b, off, hA, Nat.lt_of_lt_of_le hb hw.1, fun j hj => ?_⟩
  obtain ⟨ys, h1, h2, h3⟩ := hcell j hj
  exact ⟨ys, h1, ha _ _ _ _ _ h2 hw, fun i x hx => (World.cell?_of_block (a := ⟨b, off + j * sz + i, none⟩) hsame).trans (h3 i x hx)⟩
 ·injection hE with hE
  subst hE
  obtain ⟨ks, fz, hk⟩ := ht E' rfl b off hA
  exact ⟨ks, fz, (hw.2 b ks E' fz hk (.inl hne)).trans hk⟩
theorem kT_tok : KeepsT E TokQ := kT_st3 kT_int kT_str kT_int
end
theorem cells_nil {sz : Nat} {W : World} {A : Option Addr} : Cells sz Ra W A [] := fun h => by simp at h
theorem cells_ts {W : World} {A : Option Addr} {us : List Tok} (h : Ts W W.heap.size A us) : Cells 3 TokQ W A us := fun h0 => by
 obtain ⟨b, off, e, hb, hc⟩ := h h0
 refine ⟨b, off, e, hb, fun j hj => ?_⟩
 obtain ⟨c0, c1, c2⟩ := hc j hj
 rw [tk_eq hj] at c0 c1 c2
 refine ⟨[.int .i64 us[j].1, .string us[j].2.1, .int .i64 us[j].2.2], rfl, ⟨_, _, _, rfl, rfl, rfl, rfl⟩, fun i x hx => ?_⟩
 match i, hx with
 | 0, hx => obtain rfl : Value.int .i64 us[j].1 = x := by simpa using hx
            exact c0
 | 1, hx => obtain rfl : Value.string us[j].2.1 = x := by simpa using hx
            exact c1
 | 2, hx => obtain rfl : Value.int .i64 us[j].2.2 = x := by simpa using hx
            exact c2
 | i + 3, hx => simp at hx
theorem ts_cells {W : World} {A : Option Addr} {us : List Tok} (h : Cells 3 TokQ W A us) : Ts W W.heap.size A us := fun h0 => by
 obtain ⟨b, off, e, hb, hc⟩ := h h0
 refine ⟨b, off, e, hb, fun j hj => ?_⟩
 obtain ⟨cs, _, ⟨a, b1, c, e1, ea, eb, ec⟩, h3⟩ := hc j hj
 injection ea with ea
 injection eb with eb
 injection ec with ec
 subst e1 ea eb ec
 rw [tk_eq hj]
 exact ⟨h3 0 _ rfl, h3 1 _ rfl, h3 2 _ rfl⟩
def Rds (sz : Nat) (Ra : World -> α -> List Value -> Prop) (W : World) (xs : List Value) (us : List α) : Prop :=
 xs.length = us.length * sz /\ ∀ j (hj : j < us.length), Ra W us[j] ((xs.drop (j * sz)).take sz)
theorem rds_nil {sz : Nat} {W : World} : Rds sz Ra W [] [] := ⟨by simp, fun j hj => by simp at hj⟩
theorem rds_next {sz : Nat} (ha : Keeps Ra) {w w1 : World} {xs : List Value} {us : List α} (h : Rds sz Ra w xs us) (hw : Below w.heap.size w w1) : Rds sz Ra w1 xs us := ⟨h.1, fun j hj => ha _ _ _ _ (h.2 j hj) hw⟩
theorem rds_app {sz : Nat} {w : World} {xs cs : List Value} {us : List α} {u : α} (h : Rds sz Ra w xs us) (hu : Ra w u cs) (hl : cs.length = sz) : Rds sz Ra w (xs ++ cs) (us ++ [u]) := by
 refine ⟨by rw [List.length_append, h.1, hl, List.length_append, List.length_singleton, Nat.add_mul, Nat.one_mul], fun j hj => ?_⟩
 rw [List.length_append, List.length_singleton] at hj
 by_cases hlt : j < us.length
 ·have h1 := h.2 j hlt
  rw [List.getElem_append_left hlt]
  have hm : j * sz + sz <= us.length * sz := by rw [<- Nat.succ_mul]; exact Nat.mul_le_mul_right _ hlt
  have e : ((xs ++ cs).drop (j * sz)).take sz = (xs.drop (j * sz)).take sz := by
   rw [List.drop_append_of_le_length (by rw [h.1]; omega), List.take_append_of_le_length (by rw [List.length_drop, h.1]; omega)]
  rw [e]; exact h1
 ·obtain rfl : j = us.length := by omega
  have e : ((xs ++ cs).drop (us.length * sz)).take sz = cs := by
   rw [<- h.1, List.drop_left, List.take_of_length_le (by omega)]
  rw [e, List.getElem_append_right (Nat.le_refl _)]
  simpa using hu
theorem rds_cells {sz cap : Nat} {W : World} {base : Nat} {E : TypeId} {A : Option Addr} {xs : List Value} {us : List α} (ho : W.ownsRow base E sz (.slice A us.length cap) us.length xs) (h : Rds sz Ra W xs us) : Cells sz Ra W A us := fun h0 => by
 obtain ⟨x, c, hv, _, hlt⟩ := ho.form h0
 have hA : A = some ⟨x, 0, none⟩ := by injection hv
 subst hA
 refine ⟨x, 0, rfl, hlt, fun j hj => ⟨(xs.drop (j * sz)).take sz, ?_, h.2 j hj, fun i y hy => ?_⟩⟩
 ·have hm : j * sz + sz <= us.length * sz := by rw [<- Nat.succ_mul]; exact Nat.mul_le_mul_right _ hj
  rw [List.length_take, List.length_drop, h.1]; omega
 ·rw [List.getElem?_take] at hy
  split at hy
  ·rw [List.getElem?_drop] at hy
   have := ho.cells (g := x) rfl (j * sz + i) y hy
   rw [Addr.add_lit, Nat.zero_add] at this
   rw [Nat.zero_add]
   exact this
  ·cases hy
end
structure Gr {α : Type} (E : TypeId) (sz : Nat) (Ra : World -> α -> List Value -> Prop) (w0 : World) (v : Value) (us : List α) (wr : World) : Prop where
 own : ∃ xs, Ow E sz w0 v us.length xs wr /\ Rds sz Ra wr xs us
section
variable {α : Type} {E : TypeId} {sz : Nat} {Ra : World -> α -> List Value -> Prop} {w0 wr w1 : World} {v : Value} {us : List α}
theorem Gr.bel (h : Gr E sz Ra w0 v us wr) : Below w0.heap.size w0 wr := by obtain ⟨xs, h1, _⟩ := h.own; exact h1.bel
theorem Gr.start (h : Below w0.heap.size w0 wr) : Gr E sz Ra w0 (.slice none 0 0) ([] : List α) wr := ⟨[], Ow.start _ _ h, rds_nil⟩
theorem Gr.next (ha : Keeps Ra) (h : Gr E sz Ra w0 v us wr) (hw : Below wr.heap.size wr w1) : Gr E sz Ra w0 v us w1 := by
 obtain ⟨xs, h1, h2⟩ := h.own
 exact ⟨xs, h1.next hw, rds_next ha h2 hw⟩
theorem Gr.form (h : Gr E sz Ra w0 v us wr) : ∃ (A : Option Addr) (cap : Nat), v = .slice A us.length cap /\ us.length <= cap /\ Cells sz Ra wr A us /\ Tyd (some E) wr A := by
 obtain ⟨xs, h1, h2⟩ := h.own
 obtain ⟨A, cap, rfl, hc⟩ := h1.form
 exact ⟨A, cap, rfl, hc, rds_cells h1.own h2, own_tyd h1.own⟩
theorem Gr.app {P : Program} {ops : Array Oper} {rest : List Oper} {o : Oper} {a : Act} {Q : Exit -> Act -> World -> Prop} (hT : KeepsT E Ra) (hgd : o.guard = none) (s x : Operand) (t : TypeId)
 (ho : o.op = .call { callee := .builtin .append, args := #[s, x], argTypes := #[t, t] }) (i : TypeInfo) (z : Value) (bytes : Nat) (ht : P.underlying t = some (.slice E)) (hi : P.info? E = some i) (hz : i.zero = some z)
 (hsize : i.size = sz) (hby : i.bytes = bytes) (hzs : z.cells.size = sz) (hsz : 0 < sz) (hs : a.eval s = v) (H : Gr E sz Ra w0 v us wr) (u : α) (cs : List Value) (hu : Ra wr u cs) (c : Nat) (E' : TypeId)
 (hx : a.eval x = .slice (some ⟨wr.heap.size, 0, none⟩) 1 c) (hl : cs.length = sz) (h1 : ∀ y ∈ cs, y.oneCell' = true) (h63 : us.length + 1 <= maxLen) (hbytes : (us.length + 1) * bytes <= 140737488355328)
 (h : ∀ v' w3, Gr E sz Ra w0 v' (us ++ [u]) w3 -> Only E v.ownBlock wr w3 -> (v'.ownBlock = v.ownBlock ∨ ∃ k, v'.ownBlock = some k /\ wr.heap.size <= k) -> wpList P ops Q rest (a.put o.dst v') w3) : wpList P ops Q (o :: rest) a (wr.alloc (.cells cs.toArray E')) := by
 obtain ⟨xs, H1, H2⟩ := H.own
 subst hs
 refine wpList_plain hgd fun K hK => ?_
 have hal := (Below.refl wr.heap.size wr).alloc (Nat.le_refl _) (.cells cs.toArray E')
 obtain ⟨v', w3, hrun, hown, hg, _, hblk⟩ := run_append_own_at (P := P) (wr.alloc (.cells cs.toArray E')) w0.heap.size t o.type E i z sz bytes ht hi hz hsize hby hzs hsz _ us.length xs (H1.own.alloc _) ⟨wr.heap.size, 0, none⟩ 1 c cs (by omega) (fun j y hj => by
  rw [Addr.add_lit, Nat.zero_add, World.cell?_alloc_mark]
  simpa using hj) h1 h63 hbytes (alloc_size H1.bel.size _)
 unfold Oper.wp execOp
 simp only [ho, resolve, invoke, builtin, Sem.run_bind, Sem.run_pure, Result.andThen_ok, List.map_toArray, List.map_cons, List.map_nil, hx, hrun]
 have hon : Only E (a.eval s).ownBlock wr w3 := by
  refine ⟨Nat.le_trans hal.size hg.size, fun b ks T fz hk hne => ?_⟩
  have hlt : b < wr.heap.size := by
   by_cases c : b < wr.heap.size
   ·exact c
   ·rw [Array.getElem?_eq_none (by omega)] at hk; cases hk
  refine (hg.block b (Nat.lt_of_lt_of_le hlt hal.size) (fun e => ?_)).trans (hal.block b hlt)
  rcases hne with hne | hne
  ·rcases H1.own.2 with ⟨hv, _⟩ | ⟨g, cap, cur, hv, _, hh, _⟩
   ·rw [hv] at e; simp [Value.ownBlock] at e
   ·rw [hv] at e
    have e2 : b = g := by simpa [Value.ownBlock] using e
    subst e2
    rw [hk] at hh
    injection hh with hh
    injection hh with _ ht
    exact hne ht
  ·exact hne e.symm
 refine hK _ _ (h v' w3 ⟨xs ++ cs, ⟨by rw [List.length_append, List.length_singleton]; exact hown, (H1.bel.alloc H1.bel.size _).grown hg (by have := H1.bel.size; simp; omega) (fun j hj => (H1.own.lt j hj).1)⟩, ?_⟩ hon ?_)
 ·exact rds_app ⟨H2.1, fun j hj => hT _ _ _ _ _ (H2.2 j hj) hon⟩ (hT _ _ _ _ _ hu hon) hl
 ·rcases hblk with h5 | h5
  ·exact .inl h5
  ·exact .inr ⟨_, h5, hal.size⟩
theorem Gr.only {E2 : TypeId} (hne : E ≠ E2) (hT : KeepsT E2 Ra) (h : Gr E sz Ra w0 v us wr) {gg : Option Nat} (ho : Only E2 gg wr w1) (hb : Below w0.heap.size w0 w1) : Gr E sz Ra w0 v us w1 := by
 obtain ⟨xs, h1, h2⟩ := h.own
 refine ⟨xs, ⟨⟨h1.own.1, ?_⟩, hb⟩, h2.1, fun j hj => hT _ _ _ _ _ (h2.2 j hj) ho⟩
 rcases h1.own.2 with h3 | ⟨g, cap, cur, hv, hg, hh, rest⟩
 ·exact .inl h3
 ·exact .inr ⟨g, cap, cur, hv, hg, (ho.2 g cur E (0, 0) hh (.inl hne)).trans hh, rest⟩
end
end Rl
namespace Rl
open Tk
def DecQ (t : Bool) : World -> Decl -> List Value -> Prop := St3 StrQ (SlQ (ty t 70) 3 TokQ) BoolR
def MarQ (t : Bool) : World -> Margin -> List Value -> Prop := St2 StrQ (SlQ (ty t 42) 3 (DecQ t))
def RulQ (t : Bool) : World -> Rule -> List Value -> Prop := St4 IntQ (SlQ (ty t 70) 3 TokQ) (SlQ (ty t 42) 3 (DecQ t)) (SlQ (ty t 49) 2 (MarQ t))
theorem keeps_dec (t : Bool) : Keeps (DecQ t) := keeps_st3 keeps_str (keeps_sl keeps_tok) keeps_bool
theorem keeps_mar (t : Bool) : Keeps (MarQ t) := keeps_st2 keeps_str (keeps_sl (keeps_dec t))
theorem keeps_rul (t : Bool) : Keeps (RulQ t) := keeps_st4 keeps_int (keeps_sl keeps_tok) (keeps_sl (keeps_dec t)) (keeps_sl (keeps_mar t))
theorem kT_dec : KeepsT 42 (DecQ true) := kT_st3 kT_str (kT_sl (by decide) kT_tok) kT_bool
theorem kT_dec2 {E : TypeId} (h : 70 ≠ E) : KeepsT E (DecQ true) := kT_st3 kT_str (kT_sl h kT_tok) kT_bool
theorem kT_mar2 {E : TypeId} (h : 70 ≠ E) (h2 : 42 ≠ E) : KeepsT E (MarQ true) := kT_st2 kT_str (kT_sl h2 (kT_dec2 h))
theorem kT_rul : KeepsT 47 (RulQ true) := kT_st4 kT_int (kT_sl (by decide) kT_tok) (kT_sl (by decide) (kT_dec2 (by decide))) (kT_sl (by decide) (kT_mar2 (by decide) (by decide)))
end Rl
namespace Rl
open Tk
def SlA {α : Type} (g : Option Nat) (E : TypeId) (sz : Nat) (Ra : World -> α -> List Value -> Prop) (W : World) (us : List α) (cs : List Value) : Prop :=
 ∃ (A : Option Addr) (cap : Nat), cs = [.slice A us.length cap] /\ us.length <= cap /\ Cells sz Ra W A us /\ Tyd (some E) W A /\ ∀ b off, A = some ⟨b, off, none⟩ -> g ≠ some b /\ b < W.heap.size
def MarA (g : Option Nat) : World -> Margin -> List Value -> Prop := St2 StrQ (SlA g 42 3 (DecQ true))
theorem keeps_marA (g : Option Nat) : Keeps (MarA g) := keeps_st2 keeps_str fun _ _ _ _ ⟨A, cap, e, hc, h, ht, ha⟩ hw => ⟨A, cap, e, hc, cells_next (keeps_dec true) h hw, tyd_next ht hw, fun b off hA => ⟨(ha b off hA).1, Nat.lt_of_lt_of_le (ha b off hA).2 hw.size⟩⟩
theorem marA_Q {g : Option Nat} {W : World} {m : Margin} {cs : List Value} (h : MarA g W m cs) : MarQ true W m cs := by
 obtain ⟨a, b, e, h1, A, cap, e2, hc, hcell, ht, _⟩ := h
 exact ⟨a, b, e, h1, A, cap, e2, hc, hcell, ht⟩
theorem kT_marA (g : Option Nat) : KeepsT 49 (MarA g) := fun gg w w1 u cs ⟨a, b, e, h1, A, cap, e2, hc, hcell, ht, hav⟩ hw => by
 obtain ⟨A', cap', e3, hc', hcell', ht'⟩ := kT_sl (E := 49) (E' := 42) (sz := 3) (by decide) (kT_dec2 (by decide)) gg w w1 u.2 [b] ⟨A, cap, e2, hc, hcell, ht⟩ hw
 rw [e2] at e3
 injection e3 with e3
 injection e3 with e4 _ e5
 subst e4 e5
 exact ⟨a, b, e, h1, A, cap, e2, hc, hcell', ht', fun b off hA => ⟨(hav b off hA).1, Nat.lt_of_lt_of_le (hav b off hA).2 hw.1⟩⟩
theorem marA_decl {g g' : Option Nat} {w w1 : World} {m : Margin} {cs : List Value} (h : MarA g w m cs) (hw : Only 42 g w w1) (hg : g' = g ∨ ∃ k, g' = some k /\ w.heap.size <= k) : MarA g' w1 m cs := by
 obtain ⟨a, b, e, h1, A, cap, e2, hc, hcell, ht, hav⟩ := h
 refine ⟨a, b, e, h1, A, cap, e2, hc, fun h0 => ?_, fun E1 hE b1 off1 hA => ?_, fun b1 off1 hA => ?_⟩
 ·obtain ⟨b1, off, hA, hb, hce⟩ := hcell h0
  obtain ⟨ks, fz, hk⟩ := ht _ rfl b1 off hA
  have hsame := hw.2 b1 ks _ fz hk (.inr (hav b1 off hA).1)
  refine ⟨b1, off, hA, Nat.lt_of_lt_of_le hb hw.1, fun j hj => ?_⟩
  obtain ⟨ys, g1, g2, g3⟩ := hce j hj
  exact ⟨ys, g1, kT_dec _ _ _ _ _ g2 hw, fun i x hx => (World.cell?_of_block (a := ⟨b1, off + j * 3 + i, none⟩) hsame).trans (g3 i x hx)⟩
 ·injection hE with hE
  subst hE
  obtain ⟨ks, fz, hk⟩ := ht _ rfl b1 off1 hA
  exact ⟨ks, fz, (hw.2 b1 ks _ fz hk (.inr (hav b1 off1 hA).1)).trans hk⟩
 ·refine ⟨?_, Nat.lt_of_lt_of_le (hav b1 off1 hA).2 hw.1⟩
  rcases hg with rfl | ⟨k, rfl, hk⟩
  ·exact (hav b1 off1 hA).1
  ·intro e
   injection e with e
   have := (hav b1 off1 hA).2
   omega
theorem gr_decl {g g' : Option Nat} {w0 wr w1 : World} {v : Value} {ms : List Margin} (h : Gr 49 2 (MarA g) w0 v ms wr) (hw : Only 42 g wr w1) (hb : Below w0.heap.size w0 w1) (hg : g' = g ∨ ∃ k, g' = some k /\ wr.heap.size <= k) : Gr 49 2 (MarA g') w0 v ms w1 := by
 obtain ⟨xs, h1, h2⟩ := h.own
 refine ⟨xs, ⟨⟨h1.own.1, ?_⟩, hb⟩, h2.1, fun j hj => marA_decl (h2.2 j hj) hw hg⟩
 rcases h1.own.2 with h3 | ⟨g, cap, cur, hv, hgb, hh, rest⟩
 ·exact .inl h3
 ·exact .inr ⟨g, cap, cur, hv, hgb, (hw.2 g cur _ (0, 0) hh (.inl (by decide))).trans hh, rest⟩
def New (n : Nat) (A : Option Addr) : Prop := ∀ b off, A = some ⟨b, off, none⟩ -> n <= b
theorem own_new {W : World} {base sz n cap : Nat} {E : TypeId} {A : Option Addr} {xs : List Value} (ho : W.ownsRow base E sz (.slice A n cap) n xs) : New base A /\ ∀ b off, A = some ⟨b, off, none⟩ -> b < W.heap.size := by
 rcases ho.2 with ⟨hv, _⟩ | ⟨g, c, cur, hv, hb, hh, _⟩
 ·injection hv with h1
  rw [h1]
  exact ⟨fun b off hA => (by cases hA), fun b off hA => (by cases hA)⟩
 ·injection hv with h1
  rw [h1]
  refine ⟨fun b off hA => ?_, fun b off hA => ?_⟩
  ·injection hA with hA
   injection hA with hA _
   omega
  ·injection hA with hA
   injection hA with hA _
   subst hA
   exact (Array.getElem?_eq_some_iff.1 hh).1
end Rl
def ToldB (r : List Rl.Decl × List Rl.Margin) (w : World) (e : Ending) (w' : World) : Prop :=
 ∃ (A1 : Option Addr) (c1 : Nat) (A2 : Option Addr) (c2 : Nat), e = .returned (.tuple #[.slice A1 r.1.length c1, .slice A2 r.2.length c2]) /\ r.1.length <= c1 /\ r.2.length <= c2 /\
   Rl.Cells 3 (Rl.DecQ true) w' A1 r.1 /\ Rl.Tyd (some 42) w' A1 /\ (Rl.New w.heap.size A1 /\ ∀ b off, A1 = some ⟨b, off, none⟩ -> b < w'.heap.size) /\ Rl.Cells 2 (Rl.MarQ true) w' A2 r.2 /\ Rl.Tyd (some 49) w' A2 /\ Below w.heap.size w w'
theorem told_block {w wr : World} {v1 v2 : Value} {ds : List Rl.Decl} {ms : List Rl.Margin} {g : Option Nat} (h1 : Rl.Gr 42 3 (Rl.DecQ true) w v1 ds wr) (h2 : Rl.Gr 49 2 (Rl.MarA g) w v2 ms wr) : ToldB (ds, ms) w (.returned (.tuple #[v1, v2])) wr := by
 obtain ⟨A1, c1, rfl, hc1, hC1, hT1⟩ := h1.form
 obtain ⟨A2, c2, rfl, hc2, hC2, hT2⟩ := h2.form
 obtain ⟨xs, g1, _⟩ := h1.own
 refine ⟨A1, c1, A2, c2, rfl, hc1, hc2, hC1, hT1, Rl.own_new g1.own, fun h0 => ?_, hT2, h1.bel⟩
 obtain ⟨b, off, e, hb, hc⟩ := hC2 h0
 refine ⟨b, off, e, hb, fun j hj => ?_⟩
 obtain ⟨cs, k1, k2, k3⟩ := hc j hj
 exact ⟨cs, k1, Rl.marA_Q k2, k3⟩
theorem Tryz.infoDec : (Tryz.prog.info? 42).map (fun i => (i.zero, i.size, i.bytes)) = some (some (.agg #[.string ⟨#[]⟩, .slice none 0 0, .bool false]), 3, 48) := by kernel_rfl
theorem Tryz.infoMar : (Tryz.prog.info? 49).map (fun i => (i.zero, i.size, i.bytes)) = some (some (.agg #[.string ⟨#[]⟩, .slice none 0 0]), 2, 40) := by kernel_rfl
theorem app_dec {ops : Array Oper} {rest : List Oper} {o : Oper} {a : Act} {Q : Exit -> Act -> World -> Prop} {w0 wr : World} {v : Value} {ds : List Rl.Decl} (hgd : o.guard = none) (s x : Operand)
 (ho : o.op = .call { callee := .builtin .append, args := #[s, x], argTypes := #[40, 40] }) (hs : a.eval s = v) (H : Rl.Gr 42 3 (Rl.DecQ true) w0 v ds wr) (d : Rl.Decl) (A : Option Addr) (cap : Nat) (hc : d.2.1.length <= cap) (hT : TsT wr A d.2.1) (c : Nat) (E' : TypeId)
 (hx : a.eval x = .slice (some ⟨wr.heap.size, 0, none⟩) 1 c) (hm : ds.length <= 1000000)
 (h : ∀ v' w3, Rl.Gr 42 3 (Rl.DecQ true) w0 v' (ds ++ [d]) w3 -> Rl.Only 42 v.ownBlock wr w3 -> (v'.ownBlock = v.ownBlock ∨ ∃ k, v'.ownBlock = some k /\ wr.heap.size <= k) -> wpList Tryz.prog ops Q rest (a.put o.dst v') w3) :
 wpList Tryz.prog ops Q (o :: rest) a (wr.alloc (.cells #[.string d.1, .slice A d.2.1.length cap, .bool d.2.2] E')) := by
 obtain ⟨i0, hi, hz0, hz1, hz2⟩ := info_parts Tryz.infoDec
 exact Rl.Gr.app Rl.kT_dec hgd s x 40 ho i0 _ 48 Tryz.underlying40 hi hz0 hz1 hz2 rfl (by decide) hs H d [.string d.1, .slice A d.2.1.length cap, .bool d.2.2]
  ⟨_, _, _, rfl, rfl, ⟨A, cap, rfl, hc, Rl.cells_ts hT.1, hT.2⟩, rfl⟩ c E' hx rfl (by simp [Value.oneCell']) (by unfold maxLen; omega) (by omega) h
theorem app_mar {ops : Array Oper} {rest : List Oper} {o : Oper} {a : Act} {Q : Exit -> Act -> World -> Prop} {w0 wr : World} {v : Value} {ms : List Rl.Margin} {g : Option Nat} (hgd : o.guard = none) (s x : Operand)
 (ho : o.op = .call { callee := .builtin .append, args := #[s, x], argTypes := #[45, 45] }) (hs : a.eval s = v) (H : Rl.Gr 49 2 (Rl.MarA g) w0 v ms wr) (m : Rl.Margin) (A : Option Addr) (cap : Nat) (hc : m.2.length <= cap) (hC : Rl.Cells 3 (Rl.DecQ true) wr A m.2) (hT : Rl.Tyd (some 42) wr A) (hav : ∀ b off, A = some ⟨b, off, none⟩ -> g ≠ some b /\ b < wr.heap.size) (c : Nat) (E' : TypeId)
 (hx : a.eval x = .slice (some ⟨wr.heap.size, 0, none⟩) 1 c) (hm : ms.length <= 1000000)
 (h : ∀ v' w3, Rl.Gr 49 2 (Rl.MarA g) w0 v' (ms ++ [m]) w3 -> Rl.Only 49 v.ownBlock wr w3 -> wpList Tryz.prog ops Q rest (a.put o.dst v') w3) :
 wpList Tryz.prog ops Q (o :: rest) a (wr.alloc (.cells #[.string m.1, .slice A m.2.length cap] E')) := by
 obtain ⟨i0, hi, hz0, hz1, hz2⟩ := info_parts Tryz.infoMar
 exact Rl.Gr.app (Rl.kT_marA g) hgd s x 45 ho i0 _ 40 Tryz.underlying45 hi hz0 hz1 hz2 rfl (by decide) hs H m [.string m.1, .slice A m.2.length cap]
  ⟨_, _, rfl, rfl, A, cap, rfl, hc, hC, hT, hav⟩ c E' hx rfl (by simp [Value.oneCell']) (by unfold maxLen; omega) (by omega) (fun v' w3 h1 h2 _ => h v' w3 h1 h2)
namespace Rl
open Tk Ns
variable (sd : List Tok -> Bool) (ts : List Tok)
def blk (page : Bool) (a b : Nat) : List Decl × List Margin := blockF sd ts (b - a) page a b
theorem blockF_blk {n : Nat} {page : Bool} {a b : Nat} (h : b - a <= n) : blockF sd ts n page a b = blk sd ts page a b := block_fuel n (b - a) page a b h (Nat.le_refl _)
theorem blk_end {page : Bool} {a b : Nat} (h : ¬ a < b) : blk sd ts page a b = ([], []) := by
 unfold blk
 rw [show b - a = 0 by omega]; rfl
theorem blk_skip {page : Bool} {a b : Nat} (h : a < b) (h1 : (tk ts a).1 = 1 ∨ (tk ts a).1 = 15) : blk sd ts page a b = blk sd ts page (a + 1) b := by
 rw [<- blockF_blk sd ts (n := b - a - 1 + 1) (by omega), blockF, if_pos h, if_pos h1, blockF_blk sd ts (by omega)]
theorem blk_decl {page : Bool} {a b : Nat} (h : a < b) (h1 : ¬ ((tk ts a).1 = 1 ∨ (tk ts a).1 = 15)) (h4 : (tk ts a).1 ≠ 4) : blk sd ts page a b = addD (declL sd (sub ts a (fo seB ts a b))) (blk sd ts page (fo seB ts a b) b) := by
 have hl := fo_lt (p := seB) h (decide_eq_false (fun c => h1 (.inr c)))
 rw [<- blockF_blk sd ts (n := b - a - 1 + 1) (by omega), blockF, if_pos h, if_neg h1, if_neg h4, blockF_blk sd ts (by omega)]
def marAt (page : Bool) (a b e : Nat) : Prop := e < b /\ (tk ts e).1 = 12 /\ page = true /\ 0 <= box (tk ts a).2.1 /\ trim (sub ts (a + 1) e) = []
theorem blk_mar {page : Bool} {a b : Nat} (h : a < b) (h4 : (tk ts a).1 = 4) (hm : marAt ts page a b (fo (stB true) ts (a + 1) b)) : blk sd ts page a b =
 ((blk sd ts page (sk (ends ts) (fo (stB true) ts (a + 1) b)) b).1, (Ru.lowS (tk ts a).2.1, (blk sd ts false (fo (stB true) ts (a + 1) b + 1) (min (Ru.g (ends ts) (fo (stB true) ts (a + 1) b)).toNat b)).1) :: (blk sd ts page (sk (ends ts) (fo (stB true) ts (a + 1) b)) b).2) := by
 have hm' := hm
 unfold marAt at hm'
 have hf := fo_bd (stB true) ts (show a + 1 <= b by omega)
 have hs := sk_gt (ends ts) (fo (stB true) ts (a + 1) b)
 rw [<- blockF_blk sd ts (n := b - a - 1 + 1) (by omega), blockF, if_pos h, if_neg (by omega), if_pos h4, if_pos hm', blockF_blk sd ts (by omega), blockF_blk sd ts (by omega)]
theorem blk_at {page : Bool} {a b : Nat} (h : a < b) (h4 : (tk ts a).1 = 4) (hm : ¬ marAt ts page a b (fo (stB true) ts (a + 1) b)) : blk sd ts page a b = blk sd ts page (sk (ends ts) (fo (stB true) ts (a + 1) b)) b := by
 have hm' := hm
 unfold marAt at hm'
 have hf := fo_bd (stB true) ts (show a + 1 <= b by omega)
 have hs := sk_gt (ends ts) (fo (stB true) ts (a + 1) b)
 rw [<- blockF_blk sd ts (n := b - a - 1 + 1) (by omega), blockF, if_pos h, if_neg (by omega), if_pos h4, if_neg hm', blockF_blk sd ts (by omega)]
end Rl
namespace Rl
open Tk Ns
section
variable {sd : List Tok -> Bool}
end
end Rl
namespace Rl
open Tk Ns
section
variable {sd : List Tok -> Bool} (hsd : ∀ l, sd l = true -> Shut l) (ts : List Tok)
include hsd
end
end Rl
def SdC (sd : List Tk.Tok -> Bool) : Prop := ∀ (v : List Tk.Tok), Pr.FairB v -> ∀ (A : Option Addr) (cap : Nat) (W : World), v.length <= cap -> Ts W W.heap.size A v -> Calls Tryz.prog 20 #[.slice A v.length cap] W (Bo (sd v) W)
def ToldD (r : Option Rl.Decl) (w : World) (e : Ending) (w' : World) : Prop :=
 ∃ (d : Rl.Decl) (b : Bool) (A : Option Addr) (cap : Nat), e = .returned (.tuple #[.agg #[.string d.1, .slice A d.2.1.length cap, .bool d.2.2], .bool b]) /\ d.2.1.length <= cap /\ TsT w' A d.2.1 /\ Below w.heap.size w w' /\ r = if b = true then some d else none
abbrev zeroDecl : Obj := .cells #[.string ⟨#[]⟩, .slice none 0 0, .bool false] 42
theorem dec_cells {w : World} {k : Nat} {x0 x1 x2 : Value} {E : TypeId} (h : w.heap[k]? = some (.cells #[x0, x1, x2] E (0, 0))) :
 (w.cell? ⟨k, 0, none⟩ = some x0 /\ w.cell? ⟨k, 1, none⟩ = some x1 /\ w.cell? ⟨k, 2, none⟩ = some x2) /\ (w.frozen? ⟨k, 0, none⟩ = false /\ w.frozen? ⟨k, 1, none⟩ = false /\ w.frozen? ⟨k, 2, none⟩ = false) :=
 ⟨tok3_cells h, by refine ⟨?_, ?_, ?_⟩ <;> simp [World.frozen?, h]⟩
theorem set3 {w : World} {k : Nat} {a b c : Value} {E : TypeId} (h : w.heap[k]? = some (.cells #[a, b, c] E (0, 0))) (x y z : Value) :
 (((w.setCell ⟨k, 0, none⟩ x).setCell ⟨k, 1, none⟩ y).setCell ⟨k, 2, none⟩ z).heap[k]? = some (.cells #[x, y, z] E (0, 0)) := by
 simp [World.setCell, Array.getElem?_modify, h]
theorem ts_set3 {w : World} {k B : Nat} {A : Option Addr} {v : List Tk.Tok} {s : ByteArray} {A0 : Option Addr} {n c : Nat} {b : Bool} {E : TypeId} (h : Ts w B A v) (hk : w.heap[k]? = some (.cells #[.string s, .slice A0 n c, .bool b] E (0, 0))) (x y z : Value) :
 Ts (((w.setCell ⟨k, 0, none⟩ x).setCell ⟨k, 1, none⟩ y).setCell ⟨k, 2, none⟩ z) B A v := fun h0 => by
 obtain ⟨b9, o9, e, hb, hc⟩ := h h0
 have hne : b9 ≠ k := fun e => by
  subst e
  have h1 := (hc 0 h0).1
  rw [cell_of_row w b9 _ _ E (0, 0) hk] at h1
  match o9 + 0 * 3, h1 with
  | 0, h1 => simp at h1
  | 1, h1 => simp at h1
  | 2, h1 => simp at h1
  | m + 3, h1 => simp at h1
 refine ⟨b9, o9, e, hb, fun j hj => ?_⟩
 have far : ∀ o, (((w.setCell ⟨k, 0, none⟩ x).setCell ⟨k, 1, none⟩ y).setCell ⟨k, 2, none⟩ z).cell? ⟨b9, o, none⟩ = w.cell? ⟨b9, o, none⟩ := fun o => by
  rw [World.cell?_setCell_other _ _ _ _ (by intro e; injection e with e; exact hne e.symm), World.cell?_setCell_other _ _ _ _ (by intro e; injection e with e; exact hne e.symm), World.cell?_setCell_other _ _ _ _ (by intro e; injection e with e; exact hne e.symm)]
 rw [far, far, far]
 exact hc j hj
theorem tyd_set3 {w : World} {k : Nat} {A : Option Addr} {a0 a1 a2 : Value} (h : Rl.Tyd (some 70) w A) (hk : w.heap[k]? = some (.cells #[a0, a1, a2] 42 (0, 0))) (x y z : Value) :
 Rl.Tyd (some 70) (((w.setCell ⟨k, 0, none⟩ x).setCell ⟨k, 1, none⟩ y).setCell ⟨k, 2, none⟩ z) A := fun E hE b off hA => by
 obtain ⟨cs, fz, h1⟩ := h E hE b off hA
 have hne : b ≠ k := fun e => by
  subst e
  rw [hk] at h1
  injection h1 with h1
  injection h1 with _ h2
  injection hE with hE
  rw [<- hE] at h2
  exact absurd h2 (by decide)
 refine ⟨cs, fz, ?_⟩
 rw [Below.heap_setCell _ _ _ _ hne, Below.heap_setCell _ _ _ _ hne, Below.heap_setCell _ _ _ _ hne]
 exact h1
theorem size_set3 (w : World) (k : Nat) (x y z : Value) : (((w.setCell ⟨k, 0, none⟩ x).setCell ⟨k, 1, none⟩ y).setCell ⟨k, 2, none⟩ z).heap.size = w.heap.size := by simp [World.setCell]
namespace Rl
theorem gr_block {α : Type} {E : TypeId} {sz : Nat} {Ra : World -> α -> List Value -> Prop} {w0 wr : World} {v : Value} {us : List α} (h : Gr E sz Ra w0 v us wr) : ∀ b, v.ownBlock = some b -> b < wr.heap.size := fun b hb => by
 obtain ⟨xs, h1, _⟩ := h.own
 rcases h1.own.2 with ⟨rfl, _⟩ | ⟨g, c, cur, rfl, _, hh, _⟩
 ·cases hb
 ·have e : g = b := by simpa [Value.ownBlock] using hb
  subst e
  exact (Array.getElem?_eq_some_iff.1 hh).1
theorem fo_is {p : Tk.Tok -> Bool} {ts : List Tk.Tok} {a b : Nat} (hl : fo p ts a b < b) : p (Tk.tk ts (fo p ts a b)) = true := by
 unfold fo at hl ⊢
 by_cases hn : Ns.fnd (fun x => p (Tk.tk ts x)) (Ns.plc (Ns.ends ts) b a) = -1
 ·rw [if_pos hn] at hl; omega
 ·rw [if_neg hn]
  obtain ⟨x, _, e, hx⟩ := Rl.fnd_mem hn
  rw [e, Int.toNat_natCast]
  exact hx
def BlkAt (sd : List Tk.Tok -> Bool) (ts : List Tk.Tok) (page : Bool) (fr tz : Nat) (w : World) (v12 v13 v14 : Value) (wr : World) : Prop :=
 ∃ (k : Nat) (ds : List Decl) (ms : List Margin), fr <= k /\ k <= ts.length + 1 /\ ds.length <= k /\ ms.length <= k /\ v14 = .int .i64 k /\ Hid (blk sd ts page fr tz = (ds ++ (blk sd ts page k tz).1, ms ++ (blk sd ts page k tz).2)) /\
   Hid (Gr 42 3 (DecQ true) w v12 ds wr) /\ Hid (Gr 49 2 (MarA v12.ownBlock) w v13 ms wr)
end Rl
structure BTab (B : Nat) (w : World) : Prop where
 cell : ∀ k, k < 16 -> w.cell? ⟨0, k, none⟩ = some (.string (Rl.bx k))
 lt : 0 < B
theorem BTab.next {w w1 : World} (h : BTab w.heap.size w) (hb : Below w.heap.size w w1) : BTab w1.heap.size w1 :=
 ⟨fun k hk => (hb.cell (p := ⟨0, k, none⟩) h.lt).trans (h.cell k hk), Nat.lt_of_lt_of_le h.lt hb.size⟩
theorem bx_index (W : World) : ∀ (k : Nat), k < 16 -> (Instr.index 76 (.agg Rl.boxV) (.int .i64 k)).run Tryz.prog W = .ok (.string (Rl.bx k)) W
 | 0, _ => by kernel_rfl
 | 1, _ => by kernel_rfl
 | 2, _ => by kernel_rfl
 | 3, _ => by kernel_rfl
 | 4, _ => by kernel_rfl
 | 5, _ => by kernel_rfl
 | 6, _ => by kernel_rfl
 | 7, _ => by kernel_rfl
 | 8, _ => by kernel_rfl
 | 9, _ => by kernel_rfl
 | 10, _ => by kernel_rfl
 | 11, _ => by kernel_rfl
 | 12, _ => by kernel_rfl
 | 13, _ => by kernel_rfl
 | 14, _ => by kernel_rfl
 | 15, _ => by kernel_rfl
 | k + 16, h => absurd h (by omega)
theorem bx_agg : Value.agg #[.string (Rl.bx 0), .string (Rl.bx 1), .string (Rl.bx 2), .string (Rl.bx 3), .string (Rl.bx 4), .string (Rl.bx 5), .string (Rl.bx 6), .string (Rl.bx 7), .string (Rl.bx 8), .string (Rl.bx 9), .string (Rl.bx 10), .string (Rl.bx 11), .string (Rl.bx 12), .string (Rl.bx 13), .string (Rl.bx 14), .string (Rl.bx 15)] = .agg Rl.boxV := rfl
theorem cbox_any (s : ByteArray) (hm : s.size <= 90000) (w : World) (hT : BTab w.heap.size w) :
 Calls Tryz.prog 18 #[.string s] w (Nu (Rl.box s) w) := by
 have C := Lib.hid (lower_any s w hm)
 have HV16 := Lib.hid bx_agg
 have HV : Hid (Rl.box s = Rl.idx (Ru.lowS s) (Rl.boxes.drop 0) (0 : Nat)) := Lib.hid rfl
 have HT := Lib.hid hT
 have HIX := Lib.hid bx_index
 generalize Rl.box s = res at *
 generalize Ru.lowS s = ls at *
 clear hT
 go_enter Tryz.func18, Tryz.ntmps18
 go_upto_region 3 with (go_at_call 42; ((with_reducible refine (C.out).mono ?_); rintro e w1 ⟨rfl, b1⟩; have HB1 := Lib.hid b1; have HC : ∀ k, k < 16 -> w1.cell? ⟨0, k, none⟩ = some (.string (Rl.bx k)) := fun k hk => (b1.cell (p := ⟨0, k, none⟩) HT.out.lt).trans (HT.out.cell k hk); have c0 := HC 0 (by decide); have c1 := HC 1 (by decide); have c2 := HC 2 (by decide); have c3 := HC 3 (by decide); have c4 := HC 4 (by decide); have c5 := HC 5 (by decide); have c6 := HC 6 (by decide); have c7 := HC 7 (by decide); have c8 := HC 8 (by decide); have c9 := HC 9 (by decide); have c10 := HC 10 (by decide); have c11 := HC 11 (by decide); have c12 := HC 12 (by decide); have c13 := HC 13 (by decide); have c14 := HC 14 (by decide); have c15 := HC 15 (by decide); clear HC b1))
 rw [HV16.out]
 clear HV16 c0 c1 c2 c3 c4 c5 c6 c7 c8 c9 c10 c11 c12 c13 c14 c15 C
 generalize hbv : Value.agg Rl.boxV = bv at *
 clear hbv
 go_loopw [8] (fun v8 wr => ∃ k : Nat, k <= 16 /\ v8 = .int .i64 k /\ Hid (res = Rl.idx ls (Rl.boxes.drop k) k) /\ wr = w1) (fun v8 _ => 16 - (RowKit.intOf v8).toNat)
 case atStart => exact ⟨0, by omega, rfl, HV, rfl⟩
 case round =>
  obtain ⟨k, hk, rfl, HR, rfl⟩ := hrel
  by_cases hlt : k < 16
  ·have hlc : (k : Int) < 16 := by omega
   have hix := HIX.out wr k hlt
   rw [Rl.idx_drop k ls hlt] at HR
   clear HV
   by_cases hx : Rl.bx k = ls
   ·have hxb : ((Rl.bx k).toList == ls.toList) = true := by rw [hx]; simp
    rw [if_pos hx] at HR
    clear hx HIX
    generalize Rl.bx k = bk at *
    go_wp2_with fail
    go_ret
    exact ⟨by rw [HR.out]; rfl, HB1.out⟩
   ·have hxb : ((Rl.bx k).toList == ls.toList) = false := by rw [str_same]; exact decide_eq_false hx
    rw [if_neg hx] at HR
    clear hx HIX
    generalize Rl.bx k = bk at *
    go_wp2_with fail
    go_roundw
    case rel => exact ⟨k + 1, by omega, by go_num, HR, trivial⟩
    case measure => simp [RowKit.intOf]; omega
  ·obtain rfl : k = 16 := by omega
   have HE : Hid (res = -1) := Lib.hid HR.out
   clear HR HV HIX
   go_wp2_with fail
   go_ret
   exact ⟨by rw [HE.out]; rfl, HB1.out⟩
def ToldS (l : List ByteArray) (w : World) (e : Ending) (w' : World) : Prop := ∃ (A : Option Addr) (cap : Nat), e = .returned (.slice A l.length cap) /\ l.length <= cap /\ Rl.Cells 1 Rl.StrQ w' A l /\ Below w.heap.size w w'
theorem Tryz.infoStr : (Tryz.prog.info? 9).map (fun i => (i.zero, i.size, i.bytes)) = some (some (.string ⟨#[]⟩), 1, 16) := by kernel_rfl
theorem app_str {ops : Array Oper} {rest : List Oper} {o : Oper} {a : Act} {Q : Exit -> Act -> World -> Prop} {w0 wr : World} {v : Value} {ss : List ByteArray} (hgd : o.guard = none) (s x : Operand)
 (ho : o.op = .call { callee := .builtin .append, args := #[s, x], argTypes := #[36, 36] }) (hs : a.eval s = v) (H : Rl.Gr 9 1 Rl.StrQ w0 v ss wr) (t : ByteArray) (c : Nat) (E' : TypeId)
 (hx : a.eval x = .slice (some ⟨wr.heap.size, 0, none⟩) 1 c) (hm : ss.length <= 1000000)
 (h : ∀ v' w3, Rl.Gr 9 1 Rl.StrQ w0 v' (ss ++ [t]) w3 -> wpList Tryz.prog ops Q rest (a.put o.dst v') w3) :
 wpList Tryz.prog ops Q (o :: rest) a (wr.alloc (.cells #[.string t] E')) := by
 obtain ⟨i0, hi, hz0, hz1, hz2⟩ := info_parts Tryz.infoStr
 exact Rl.Gr.app (E := 9) Rl.kT_str hgd s x 36 ho i0 _ 16 Tryz.underlying36 hi hz0 hz1 hz2 rfl (by decide) hs H t [.string t] rfl c E' hx rfl (by simp [Value.oneCell']) (by unfold maxLen; omega) (by omega) (fun v' w3 h1 _ _ => h v' w3 h1)
theorem boxes_snoc : ∀ (k : Nat), k < 16 -> Rl.boxes.take (k + 1) = Rl.boxes.take k ++ [Rl.bx k] := fun k hk => by
 unfold Rl.bx
 rw [List.take_add_one, List.getD_eq_getElem?_getD]
 have hl : k < Rl.boxes.length := hk
 rw [List.getElem?_eq_getElem hl]
 rfl
theorem cboxes_any (w : World) (hT : BTab w.heap.size w) : Calls Tryz.prog 22 #[] w (ToldS Rl.boxes w) := by
 have HV16 := Lib.hid bx_agg
 have HIX := Lib.hid bx_index
 have HC := hT.cell
 have c0 := HC 0 (by decide)
 have c1 := HC 1 (by decide)
 have c2 := HC 2 (by decide)
 have c3 := HC 3 (by decide)
 have c4 := HC 4 (by decide)
 have c5 := HC 5 (by decide)
 have c6 := HC 6 (by decide)
 have c7 := HC 7 (by decide)
 have c8 := HC 8 (by decide)
 have c9 := HC 9 (by decide)
 have c10 := HC 10 (by decide)
 have c11 := HC 11 (by decide)
 have c12 := HC 12 (by decide)
 have c13 := HC 13 (by decide)
 have c14 := HC 14 (by decide)
 have c15 := HC 15 (by decide)
 clear HC hT
 go_enter Tryz.func22, Tryz.ntmps22
 go_upto_region 3 with fail
 rw [HV16.out]
 clear HV16 c0 c1 c2 c3 c4 c5 c6 c7 c8 c9 c10 c11 c12 c13 c14 c15
 generalize hbv : Value.agg Rl.boxV = bv at *
 clear hbv
 go_loopw [1, 5] (fun v1 v5 wr => ∃ k : Nat, k <= 16 /\ v5 = .int .i64 k /\ Hid (Rl.Gr 9 1 Rl.StrQ w v1 (Rl.boxes.take k) wr)) (fun _ v5 _ => 16 - (RowKit.intOf v5).toNat)
 case atStart => exact ⟨0, by omega, rfl, Lib.hid (Rl.Gr.start (Below.refl _ _))⟩
 case round =>
  obtain ⟨k, hk, rfl, HG⟩ := hrel
  by_cases hlt : k < 16
  ·have hlc : (k : Int) < 16 := by omega
   have hix := HIX.out wr k hlt
   have HN := Lib.hid (boxes_snoc k hlt)
   have hll : (Rl.boxes.take k).length <= 1000000 := by rw [List.length_take]; omega
   clear HIX
   generalize Rl.bx k = bk at *
   go_wp2_with (at_builtin; refine app_str rfl _ _ rfl rfl HG.out bk _ _ rfl hll ?_; intro v' w3 H3; have HG3 := Lib.hid H3; clear H3)
   go_roundw
   case rel => exact ⟨k + 1, by omega, by go_num, by rw [HN.out]; exact HG3⟩
   case measure => simp [RowKit.intOf]; omega
  ·obtain rfl : k = 16 := by omega
   go_wp2_with fail
   go_ret
   obtain ⟨A, cap, rfl, hc, hC, _⟩ := HG.out.form
   exact ⟨A, cap, rfl, hc, hC, HG.out.bel⟩
end Go.Proofs.YtllmjggejbdpcaaGreatDoor
namespace Go.Proofs.YtllmjggejbdpcaaGreatDoor
open Go.Lib
open Go.ChangeShapes Go.WideShapes Go.ChangeAt Go.RowKit Go.WideMaps Go.WideElems
theorem cells_of_strs {H : Type} {enc : TypeId × Value -> H} {P : Program} {w : World} {base : Nat} {sp : Nat -> Bool} {held : Bool} {fuel : Nat} {t e : TypeId} {n : Nat} {cs : List Value} {ss : List ByteArray} {p : List MemPlace}
 (ht : P.underlying t = some (.array n e)) (he : P.underlying e = some .string) (hce : P.cellsOf e = 1) (hct : P.cellsOf t = n)
 (h : DataW.trod enc P w base sp held fuel t cs = some (.agg (ss.map fun s => .lit (.string s.data.toList)), p)) : ∀ i (hi : i < ss.length), cs[i]? = some (.string ss[i]) := by
 cases fuel with
 | zero => simp [DataW.trod] at h
 | succ fuel =>
   simp only [DataW.trod, ht, hce, hct, Nat.mul_one] at h
   split at h
   ·rename_i hl
    obtain ⟨xs, hm, hx⟩ := Option.map_eq_some_iff.1 h
    have hxs : xs.map (·.1) = ss.map fun s => (DataW.lit (.string s.data.toList) : DataW H) := by
     have := congrArg Prod.fst hx
     simpa using this
    have hxl : xs.length = n := by simpa using mapM_length hm
    have hzl : ss.length = n := by
     have := congrArg List.length hxs
     simp at this
     omega
    intro i hi
    have hin : i < n := by omega
    obtain ⟨b, hb, hf⟩ := mapM_at hm i i (by simp [hin])
    have h2 : (xs.map (·.1))[i]? = some (DataW.lit (.string ss[i].data.toList) : DataW H) := by rw [hxs]; simp [hi]
    have h3 : b.1 = DataW.lit (.string ss[i].data.toList) := by
     rw [List.getElem?_map, hb] at h2
     exact Option.some.inj h2
    obtain ⟨s, hc, rfl, _⟩ := DataW.trod_string he hf
    injection h3 with h3
    injection h3 with h3
    have e : s = ss[i] := by
     obtain ⟨⟨a⟩⟩ := s
     generalize ss[i] = y at *
     obtain ⟨⟨b⟩⟩ := y
     simp only at h3
     rw [h3]
    have h1 := congrArg (·[0]?) hc
    rw [<- e]
    simpa [List.getElem?_take, List.getElem?_drop] using h1
   ·cases h
theorem boxes_is : Rows.laid_broadside_rules_boxes (H := Unit) = .agg (Rl.boxes.map fun s => .lit (.string s.data.toList)) := by kernel_rfl
theorem btab_of {W : World} (h : VarReads Tryz.prog W "broadside/rules.boxes" Rows.laid_broadside_rules_boxes) : BTab W.heap.size W := by
 rw [boxes_is] at h
 obtain ⟨g, t, cs, fuel, p, h1, h2, h3, h4⟩ := h
 have hg : Tryz.prog.globalNamed "broadside/rules.boxes" = some 0 := by kernel_rfl
 have ht : (Tryz.prog.globals[0]?).map (·.type) = some 76 := by kernel_rfl
 obtain rfl := Option.some.inj (hg.symm.trans h1)
 obtain rfl := Option.some.inj (ht.symm.trans h2)
 have hc := cells_of_strs (n := 16) (e := 9) (by kernel_rfl) Tryz.underlying9 (by kernel_rfl) (by kernel_rfl) h4
 have hcell : ∀ k, k < 16 -> W.cell? ⟨0, k, none⟩ = some (.string (Rl.bx k)) := fun k hk => by
  have hl : k < Rl.boxes.length := hk
  have h5 := World.var?_cell hg h3 k
  rw [h5]
  have h6 := hc k hl
  have h7 : Rl.boxes[k] = Rl.bx k := by
   unfold Rl.bx
   rw [List.getD_eq_getElem?_getD, List.getElem?_eq_getElem hl]; rfl
  rw [h7] at h6
  simpa using h6
 exact ⟨hcell, World.block_lt_of_cell? W _ (hcell 0 (by decide))⟩
theorem tabs_of8 {W : World} (hL : laidMet Tryz.prog [("math/bits.deBruijn32tab", Rows.laid_math_bits_deBruijn32tab), ("math/bits.deBruijn64tab", Rows.laid_math_bits_deBruijn64tab), ("internal/strconv.uint64pow10", Rows.laid_internal_strconv_uint64pow10), ("unicode/utf8.acceptRanges", Rows.laid_unicode_utf8_acceptRanges), ("strconv.ErrRange", Rows.laid_strconv_ErrRange), ("strconv.ErrSyntax", Rows.laid_strconv_ErrSyntax), ("broadside/rules.boxes", Rows.laid_broadside_rules_boxes), ("unicode/utf8.first", Rows.laid_unicode_utf8_first)] W) : PTab W.heap.size W /\ BTab W.heap.size W := by
 have h4 := Lib.laidMet.reads hL (.tail _ (.tail _ (.tail _ (.head _))))
 have h6 := Lib.laidMet.reads hL (.tail _ (.tail _ (.tail _ (.tail _ (.tail _ (.tail _ (.head _)))))))
 have h3 := Lib.laidMet.reads hL (.tail _ (.tail _ (.tail _ (.tail _ (.tail _ (.tail _ (.tail _ (.head _))))))))
 rw [first_is] at h3
 rw [accept_is] at h4
 exact ⟨ptab_of hL.tail hL.tail.tail (tabs_of h3 h4), btab_of h6⟩
end Go.Proofs.YtllmjggejbdpcaaGreatDoor
namespace Go.Proofs.YtllmjggejbdpcaaGreatDoor
open Go.RowKit
def Ns.shuts (u o : Tk.Tok) : Prop := u.1 = 13 /\ Ns.clo o = u.2.1
instance (u o : Tk.Tok) : Decidable (Ns.shuts u o) := by unfold Ns.shuts; infer_instance
theorem ncloses_any (k : Int) (t : ByteArray) (n : Int) (k2 : Int) (t2 : ByteArray) (n2 : Int) (w : World) :
 Calls Tryz.prog 52 #[tokV k t n, tokV k2 t2 n2] w (Bo (decide (Ns.shuts (k, t, n) (k2, t2, n2))) w) := by
 obtain ⟨W0, hW⟩ : ∃ W0, W0 = (w.alloc (.cells #[.int .i64 k, .string t, .int .i64 n] 70)).alloc (.cells #[.int .i64 k2, .string t2, .int .i64 n2] 70) := ⟨_, rfl⟩
 have hb0 : Below w.heap.size w W0 := by rw [hW]; exact ((Below.refl _ _).alloc (Nat.le_refl _) _).alloc (by simp) _
 have k0 : W0.heap[w.heap.size]? = some (.cells #[.int .i64 k, .string t, .int .i64 n] 70 (0, 0)) := by
  rw [hW]; exact (Below.heap_alloc _ _ _ (by simp)).trans (heap_alloc_new w _)
 have k1 : W0.heap[w.heap.size + 1]? = some (.cells #[.int .i64 k2, .string t2, .int .i64 n2] 70 (0, 0)) := by
  rw [hW]
  have := heap_alloc_new (w.alloc (.cells #[.int .i64 k, .string t, .int .i64 n] 70)) (.cells #[.int .i64 k2, .string t2, .int .i64 n2] 70)
  rwa [show (w.alloc (.cells #[.int .i64 k, .string t, .int .i64 n] 70)).heap.size = w.heap.size + 1 by simp] at this
 have hz0 : w.heap.size + 1 < W0.heap.size := by rw [hW]; simp
 obtain ⟨p0, p1, p2⟩ := tok3_cells k0
 obtain ⟨q0, q1, q2⟩ := tok3_cells k1
 have HB0 := Lib.hid hb0
 have HW := Lib.hid hW.symm
 have CC : Hid (∀ W, Calls Tryz.prog 51 #[.agg #[.int .i64 k2, .string t2, .int .i64 n2]] W (Sg (Ns.clo (k2, t2, n2)) W)) := Lib.hid fun W => closing_any _ _ _ W
 clear hb0 k0 k1 hW
 unfold tokV
 by_cases h : k = 13
 ·subst h
  have HV : Hid ((t.toList == (Ns.clo (k2, t2, n2)).toList) = decide (Ns.shuts (13, t, n) (k2, t2, n2))) := Lib.hid (by
   rw [str_same]
   exact decide_eq_decide.2 ⟨fun h => ⟨rfl, h.symm⟩, fun h => h.2.symm⟩)
  generalize Ns.clo (k2, t2, n2) = ct at *
  generalize decide (Ns.shuts (13, t, n) (k2, t2, n2)) = bv at *
  go_enter Tryz.func52, Tryz.ntmps52
  go_upto_region 1 with fail
  rw [HW.out]
  clear HW
  have hs0 : w.heap.size < W0.heap.size := by omega
  go_region_held3 (fun w' => w'.cell? ⟨w.heap.size, 0, none⟩ = some (.int .i64 13) /\ w'.cell? ⟨w.heap.size, 1, none⟩ = some (.string t) /\ w'.cell? ⟨w.heap.size + 1, 0, none⟩ = some (.int .i64 k2) /\ w'.cell? ⟨w.heap.size + 1, 1, none⟩ = some (.string t2) /\ w'.cell? ⟨w.heap.size + 1, 2, none⟩ = some (.int .i64 n2))
   (first | go_keep | (go_split_ands; exact ⟨(hb1.cell (p := ⟨w.heap.size, 0, none⟩) hs0).trans (by assumption), (hb1.cell (p := ⟨w.heap.size, 1, none⟩) hs0).trans (by assumption), (hb1.cell (p := ⟨w.heap.size + 1, 0, none⟩) hz0).trans (by assumption), (hb1.cell (p := ⟨w.heap.size + 1, 1, none⟩) hz0).trans (by assumption), (hb1.cell (p := ⟨w.heap.size + 1, 2, none⟩) hz0).trans (by assumption)⟩))
   (first | (go_at_call 51; refine (CC.out _).mono ?_; rintro e w2 ⟨rfl, hb1⟩))
  have HB2 := Lib.hid (below_next HB0.out ((Below.refl _ _).drew.trans hb1))
  clear hb1 p0 p1 p2 q0 q1 q2
  go_wp2_with fail
  go_ret
  exact ⟨by rw [<- HV.out]; rfl, HB2.out⟩
 ·have e : (k == 13) = false := beq_false_of_ne h
  have HV : Hid (decide (Ns.shuts (k, t, n) (k2, t2, n2)) = false) := Lib.hid (decide_eq_false fun c => h c.1)
  clear h
  go_enter Tryz.func52, Tryz.ntmps52
  go_upto_region 1 with fail
  rw [HW.out]
  clear HW
  go_quiet (fail)
  go_wp2_with fail
  go_ret
  exact ⟨by rw [HV.out]; rfl, below_drewN HB0.out _⟩
namespace Ns
def okp (ts : List Tk.Tok) (fr tz : Int) : Prop := 0 <= fr /\ fr <= tz /\ tz <= ts.length
instance (ts : List Tk.Tok) (fr tz : Int) : Decidable (okp ts fr tz) := by unfold okp; infer_instance
end Ns
def SkipC : Prop := ∀ (es : List Int), Ns.Fit es -> Ns.Lead es -> ∀ (A : Option Addr) (cap : Nat) (a : Int), (-1152921504606846976 <= a /\ a <= 1152921504606846976) -> ∀ w, Bs w w.heap.size .i64 A es -> Calls Tryz.prog 55 #[.slice A es.length cap, .int .i64 a] w (Nu (Ns.skp es a) w)
theorem nwithin_any (ts : List Tk.Tok) (A : Option Addr) (ca : Nat) (fr tz : Int) (w : World) :
 Calls Tryz.prog 163 #[.slice A ts.length ca, .int .i64 fr, .int .i64 tz] w fun e w' => e = .returned (.bool (decide (Ns.okp ts fr tz))) /\ w = w' := by
 by_cases h1 : 0 <= fr
 ·have d1 : decide (0 <= fr) = true := decide_eq_true h1
  by_cases h2 : fr <= tz
  ·have d2 : decide (fr <= tz) = true := decide_eq_true h2
   by_cases h3 : tz <= (ts.length : Int)
   ·have d3 : decide (tz <= (ts.length : Int)) = true := decide_eq_true h3
    have HV : Hid (decide (Ns.okp ts fr tz) = true) := Lib.hid (decide_eq_true ⟨h1, h2, h3⟩)
    go_enter Tryz.func163, Tryz.ntmps163
    go_wp2_with fail
    go_ret
    exact ⟨by rw [HV.out]; rfl, rfl⟩
   ·have d3 : decide (tz <= (ts.length : Int)) = false := decide_eq_false h3
    have HV : Hid (decide (Ns.okp ts fr tz) = false) := Lib.hid (decide_eq_false fun c => h3 c.2.2)
    go_enter Tryz.func163, Tryz.ntmps163
    go_wp2_with fail
    go_ret
    exact ⟨by rw [HV.out]; rfl, rfl⟩
  ·have d2 : decide (fr <= tz) = false := decide_eq_false h2
   have HV : Hid (decide (Ns.okp ts fr tz) = false) := Lib.hid (decide_eq_false fun c => h2 c.2.1)
   go_enter Tryz.func163, Tryz.ntmps163
   go_wp2_with fail
   go_ret
   exact ⟨by rw [HV.out]; rfl, rfl⟩
 ·have d1 : decide (0 <= fr) = false := decide_eq_false h1
  have HV : Hid (decide (Ns.okp ts fr tz) = false) := Lib.hid (decide_eq_false fun c => h1 c.1)
  go_enter Tryz.func163, Tryz.ntmps163
  go_wp2_with fail
  go_ret
  exact ⟨by rw [HV.out]; rfl, rfl⟩
theorem nleads_any (es : List Int) (hm : es.length <= 65536) (hL : Ns.Lead es) (C : Option Addr) (cc : Nat) (a : Nat) (ha : a < es.length) (w : World) (h : Bs w w.heap.size .i64 C es) :
 Calls Tryz.prog 104 #[.slice C es.length cc, .int .i64 a] w fun e w' => e = .returned (.bool (!decide (Ru.g es a = -1))) /\ w = w' := by
 obtain ⟨b, off, rfl, hb, hp⟩ := h (by omega)
 have p0 := hp a ha
 rcases hL a ha with h1 | h1 | ⟨h1, h2, h3⟩
 ·have HV : Hid ((!decide (Ru.g es a = -1)) = false) := Lib.hid (by rw [h1]; rfl)
  rw [h1] at p0
  clear hp hL h h1
  go_enter Tryz.func104, Tryz.ntmps104
  go_wp2_with fail
  go_ret
  exact ⟨by rw [HV.out]; rfl, rfl⟩
 ·have HV : Hid ((!decide (Ru.g es a = -1)) = true) := Lib.hid (by rw [decide_eq_false (by omega)]; rfl)
  rw [h1] at p0
  clear hp hL h h1
  go_enter Tryz.func104, Tryz.ntmps104
  go_wp2_with fail
  go_ret
  exact ⟨by rw [HV.out]; rfl, rfl⟩
 ·have HV : Hid ((!decide (Ru.g es a = -1)) = true) := Lib.hid (by rw [decide_eq_false (by omega)]; rfl)
  obtain ⟨g, hg⟩ : ∃ g : Nat, Ru.g es a = g := ⟨(Ru.g es a).toNat, by omega⟩
  rw [hg] at p0 h1 h2 h3
  rw [Int.toNat_natCast] at h3
  have hgl : g < es.length := by omega
  have hag : a < g := by omega
  have p1 := hp g hgl
  rw [h3] at p1
  have hne : (g == es.length) = false := beq_false_of_ne (by omega)
  have hne2 : ((g : Int) == (es.length : Int)) = false := beq_false_of_ne (by omega)
  clear hp hL h h1 h2 h3 hg
  go_enter Tryz.func104, Tryz.ntmps104
  go_wp2_with fail
  go_ret
  exact ⟨by rw [HV.out]; rfl, rfl⟩
theorem skipC : SkipC := by
 intro es hF hL A cap a ha w h
 have hm := hF.1
 by_cases h0 : a < 0
 ·have d0 : decide (a < 0) = true := decide_eq_true h0
  have HV : Hid (Ns.skp es a = a + 1) := Lib.hid (Ns.skp_no fun c => by omega)
  clear h hF hL
  go_enter Tryz.func55, Tryz.ntmps55
  go_wp2_with fail
  go_ret
  exact ⟨by rw [HV.out]; rfl, Below.refl _ _⟩
 ·have d0 : decide (a < 0) = false := decide_eq_false h0
  obtain ⟨n, rfl⟩ : ∃ n : Nat, a = n := ⟨a.toNat, by omega⟩
  by_cases h1 : (es.length : Int) <= (n : Int)
  ·have d1 : decide ((es.length : Int) <= (n : Int)) = true := decide_eq_true h1
   have d2 : decide (es.length <= n) = true := decide_eq_true (by omega)
   have HV : Hid (Ns.skp es n = n + 1) := Lib.hid (Ns.skp_no fun c => by omega)
   clear h hF hL
   go_enter Tryz.func55, Tryz.ntmps55
   go_wp2_with fail
   go_ret
   exact ⟨by rw [HV.out]; rfl, Below.refl _ _⟩
  ·have d1 : decide ((es.length : Int) <= (n : Int)) = false := decide_eq_false h1
   have hlt : n < es.length := by omega
   have d2 : decide (es.length <= n) = false := decide_eq_false (by omega)
   have CL := Lib.hid (nleads_any es hm hL A cap n hlt w h)
   have hb2 := hF.2 n hlt
   by_cases h2 : Ru.g es n = -1
   ·have HV : Hid (Ns.skp es n = n + 1) := Lib.hid (Ns.skp_no fun c => by rw [Int.toNat_natCast] at c; omega)
    rw [decide_eq_true h2] at CL
    clear h hF hL h2 hb2
    go_enter Tryz.func55, Tryz.ntmps55
    go_wp2_with (go_at_call 104; ((with_reducible refine (CL.out).mono ?_); rintro e w1 ⟨rfl, rfl⟩))
    go_ret
    exact ⟨by rw [HV.out]; rfl, Below.refl _ _⟩
   ·have hge : (n : Int) <= Ru.g es n := by rcases hL n hlt with c | c | c <;> omega
    have HV : Hid (Ns.skp es n = min (Ru.g es n + 1) es.length) := Lib.hid (by rw [Ns.skp_yes (by omega) (by omega) (by rw [Int.toNat_natCast]; exact hge), Int.toNat_natCast])
    rw [decide_eq_false h2] at CL
    obtain ⟨b, off, rfl, hb, hp⟩ := h (by omega)
    have p0 := hp n hlt
    clear h hF hL h2 hp hge
    generalize Ru.g es n = x at *
    go_enter Tryz.func55, Tryz.ntmps55
    go_wp2_with (go_at_call 104; ((with_reducible refine (CL.out).mono ?_); rintro e w1 ⟨rfl, rfl⟩))
    go_ret
    exact ⟨by rw [HV.out]; rfl, Below.refl _ _⟩
theorem fits_any (ts : List Tk.Tok) (hm : ts.length <= 20000) (A C : Option Addr) (ca cc : Nat) (a : Nat) (ha : a < ts.length) (w : World) (h : Ts w w.heap.size A ts) (h2 : Bs w w.heap.size .i64 C (Ns.ends ts)) :
 Calls Tryz.prog 201 #[.slice A ts.length ca, .slice C (Ns.ends ts).length cc, .int .i64 a] w (Bo true w) := by
 have hel := Ns.ends_len ts
 have hae : a < (Ns.ends ts).length := by omega
 have CL : Hid (∀ W, Below w.heap.size w W -> Calls Tryz.prog 104 #[.slice C (Ns.ends ts).length cc, .int .i64 a] W fun e w' => e = .returned (.bool (!decide (Ru.g (Ns.ends ts) a = -1))) /\ W = w') :=
  Lib.hid fun W hb => nleads_any (Ns.ends ts) (by omega) (Ns.ends_lead ts) C cc a hae W (h2.next hb)
 have CC : Hid (∀ W, Calls Tryz.prog 51 #[.agg #[.int .i64 (Tk.tk ts a).1, .string (Tk.tk ts a).2.1, .int .i64 (Tk.tk ts a).2.2]] W (Sg (Ns.clo (Tk.tk ts a)) W)) := Lib.hid fun W => closing_any _ _ _ W
 obtain ⟨b, off, rfl, hb, hp⟩ := h2 (by omega)
 obtain ⟨bb, of2, rfl, hbb, hp2⟩ := h (by omega)
 have p0 := hp a hae
 obtain ⟨q0, q1, q2⟩ := hp2 a ha
 clear h h2
 by_cases hO : Ns.isO (Tk.tk ts a)
 ·have he := Ns.empty_f hO
  rcases Ns.ends_pair ha hO with hx | ⟨j, h1, h2, h3, h4, h5, h6⟩
  ·rw [hx] at p0 CL
   rw [show (!decide ((ts.length : Int) = -1)) = true by rw [decide_eq_false (by omega)]; rfl] at CL
   have HEL := Lib.hid hel
   clear hp hp2 hO hx hel
   generalize Ns.clo (Tk.tk ts a) = cl at *
   generalize Tk.tk ts a = u at *
   go_enter Tryz.func201, Tryz.ntmps201
   go_wp2_with (go_at_call 51; ((with_reducible refine (CC.out _).mono ?_); rintro e w1 ⟨rfl, b1⟩; have HB1 := Lib.hid b1; have r0 := (b1.cell (p := ⟨b, off + a, none⟩) hb).trans p0; clear b1))
   go_quiet ((go_at_call 104; exact Calls.quiet_of_same ((CL.out _ (below_drewN HB1.out _)).mono fun _ _ h => ⟨h.1, h.2.symm⟩)))
   go_wp2_with fail
   go_ret
   exact ⟨rfl, below_drewN HB1.out _⟩
  ·obtain ⟨s0, s1, s2⟩ := hp2 j h2
   have HV : Hid (decide (Ns.shuts (Tk.tk ts j) (Tk.tk ts a)) = true) := Lib.hid (decide_eq_true ⟨h4, h5⟩)
   have CT : Hid (∀ W, Calls Tryz.prog 52 #[.agg #[.int .i64 (Tk.tk ts j).1, .string (Tk.tk ts j).2.1, .int .i64 (Tk.tk ts j).2.2], .agg #[.int .i64 (Tk.tk ts a).1, .string (Tk.tk ts a).2.1, .int .i64 (Tk.tk ts a).2.2]] W (Bo true W)) := Lib.hid fun W => by
    have := ncloses_any (Tk.tk ts j).1 (Tk.tk ts j).2.1 (Tk.tk ts j).2.2 (Tk.tk ts a).1 (Tk.tk ts a).2.1 (Tk.tk ts a).2.2 W
    rw [show decide (Ns.shuts ((Tk.tk ts j).1, (Tk.tk ts j).2.1, (Tk.tk ts j).2.2) ((Tk.tk ts a).1, (Tk.tk ts a).2.1, (Tk.tk ts a).2.2)) = true from HV.out] at this
    exact this
   rw [h3] at p0 CL
   rw [show (!decide ((j : Int) = -1)) = true by rw [decide_eq_false (by omega)]; rfl] at CL
   have hne : (j == ts.length) = false := beq_false_of_ne (by omega)
   have hne2 : ((j : Int) == (ts.length : Int)) = false := beq_false_of_ne (by omega)
   have hj2 : (j : Int) < (ts.length : Int) := by omega
   have ha2 : (a : Int) < (ts.length : Int) := by omega
   have ha3 : (a : Int) < ((Ns.ends ts).length : Int) := by omega
   clear hp hp2 hO h3 h4 h5 h6 hel HV
   generalize Ns.clo (Tk.tk ts a) = cl at *
   generalize Tk.tk ts a = u at *
   generalize Tk.tk ts j = v at *
   generalize Ns.ends ts = es at *
   go_enter Tryz.func201, Tryz.ntmps201
   go_wp2_with (go_at_call 51; ((with_reducible refine (CC.out _).mono ?_); rintro e w1 ⟨rfl, b1⟩; have HB1 := Lib.hid b1; have r0 := (b1.cell (p := ⟨b, off + a, none⟩) hb).trans p0; have u0 := (b1.cell (p := ⟨bb, of2 + a * 3, none⟩) hbb).trans q0; have u1 := (b1.cell (p := ⟨bb, of2 + a * 3 + 1, none⟩) hbb).trans q1; have u2 := (b1.cell (p := ⟨bb, of2 + a * 3 + 2, none⟩) hbb).trans q2; have v0 := (b1.cell (p := ⟨bb, of2 + j * 3, none⟩) hbb).trans s0; have v1 := (b1.cell (p := ⟨bb, of2 + j * 3 + 1, none⟩) hbb).trans s1; have v2 := (b1.cell (p := ⟨bb, of2 + j * 3 + 2, none⟩) hbb).trans s2; clear b1))
   clear p0 q0 q1 q2 s0 s1 s2
   have hb1' := Nat.lt_of_lt_of_le hb HB1.out.size
   have hbb1 := Nat.lt_of_lt_of_le hbb HB1.out.size
   go_region_held3 (fun w' => w'.cell? ⟨b, off + a, none⟩ = some (.int .i64 j) /\ w'.cell? ⟨bb, of2 + a * 3, none⟩ = some (.int .i64 u.1) /\ w'.cell? ⟨bb, of2 + a * 3 + 1, none⟩ = some (.string u.2.1) /\ w'.cell? ⟨bb, of2 + a * 3 + 2, none⟩ = some (.int .i64 u.2.2) /\ w'.cell? ⟨bb, of2 + j * 3, none⟩ = some (.int .i64 v.1) /\ w'.cell? ⟨bb, of2 + j * 3 + 1, none⟩ = some (.string v.2.1) /\ w'.cell? ⟨bb, of2 + j * 3 + 2, none⟩ = some (.int .i64 v.2.2))
    (first | go_keep | (go_split_ands; exact ⟨(hb1.cell (p := ⟨b, off + a, none⟩) hb1').trans (by assumption), (hb1.cell (p := ⟨bb, of2 + a * 3, none⟩) hbb1).trans (by assumption), (hb1.cell (p := ⟨bb, of2 + a * 3 + 1, none⟩) hbb1).trans (by assumption), (hb1.cell (p := ⟨bb, of2 + a * 3 + 2, none⟩) hbb1).trans (by assumption), (hb1.cell (p := ⟨bb, of2 + j * 3, none⟩) hbb1).trans (by assumption), (hb1.cell (p := ⟨bb, of2 + j * 3 + 1, none⟩) hbb1).trans (by assumption), (hb1.cell (p := ⟨bb, of2 + j * 3 + 2, none⟩) hbb1).trans (by assumption)⟩))
    (first | (go_at_call 104; refine (CL.out _ HB1.out.drew).mono ?_; rintro e w2 ⟨rfl, rfl⟩) | (go_at_call 52; refine (CT.out _).mono ?_; rintro e w2 ⟨rfl, hb1⟩))
   have HB2 := Lib.hid (below_next HB1.out ((Below.refl _ _).drew.trans hb1))
   clear hb1 r0 u0 u1 u2 v0 v1 v2
   go_wp2_with fail
   go_ret
   exact ⟨rfl, HB2.out⟩
 ·have hcn := Ns.clo_none hO
  have hx : Ru.g (Ns.ends ts) a = -1 := Ns.ends_none ha hO
  rw [hx] at p0
  rw [hcn] at CC
  clear hp hp2 hO hcn hx CL
  generalize Tk.tk ts a = u at *
  go_enter Tryz.func201, Tryz.ntmps201
  go_wp2_with (go_at_call 51; ((with_reducible refine (CC.out _).mono ?_); rintro e w1 ⟨rfl, b1⟩; have HB1 := Lib.hid b1; have r0 := (b1.cell (p := ⟨b, off + a, none⟩) hb).trans p0; clear b1))
  go_ret
  exact ⟨rfl, HB1.out⟩
end Go.Proofs.YtllmjggejbdpcaaGreatDoor
