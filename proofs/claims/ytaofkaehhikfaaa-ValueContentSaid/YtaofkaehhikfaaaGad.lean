/-
  Words of memory for rows of structs: as they are read, and as a row of the call's own grows. No run of the program in this text.
-/
import Derived.Test.YtaofkaehhikfaaaGac
import Derived.Maps.AppendAt
import Derived.Test.YtaofkaehhikfaaaGaa
import Derived.Lib.RuneBytes
import Derived.Laws.BytesArg
import Derived.Laws.IdiomStrings
import Derived.Test.YtaofkaehhikfaaaGab
import Derived.Deep.Cut
import Derived.Deep.CutRange
import Derived.Deep.DeepCutAuto
import Derived.LoopTactic
import Derived.IntWalk
import Derived.BigGuard
import Derived.Maps.Own
import Derived.Maps.OwnOps
import Derived.Carry
import Derived.Deep.RegionHeld3
import Derived.Deep.QuietTactic
import Derived.BigQuiet
import Derived.ScopeJumps
set_option maxHeartbeats 16000000
set_option maxRecDepth 100000
namespace Go.Proofs.Ytaofkaehhikfaaa
open Go.RowKit
namespace Rl
open Tk
def Keeps {α : Type} (R : World -> α -> List Value -> Prop) : Prop := ∀ w w1 u cs, R w u cs -> Below w.heap.size w w1 -> R w1 u cs
section
variable {α β γ δ : Type} {Ra : World -> α -> List Value -> Prop} {Rb : World -> β -> List Value -> Prop} {Rc : World -> γ -> List Value -> Prop} {Rd : World -> δ -> List Value -> Prop}
theorem cells_next {sz : Nat} (ha : Keeps Ra) {w w1 : World} {A : Option Addr} {us : List α} (h : Cells sz Ra w A us) (hw : Below w.heap.size w w1) : Cells sz Ra w1 A us := fun h0 => by
 obtain ⟨b, off, e, hb, hc⟩ := h h0
 refine ⟨b, off, e, Nat.lt_of_lt_of_le hb hw.size, fun j hj => ?_⟩
 obtain ⟨cs, h1, h2, h3⟩ := hc j hj
 exact ⟨cs, h1, ha _ _ _ _ h2 hw, fun i x hx => (hw.cell (p := ⟨b, off + j * sz + i, none⟩) hb).trans (h3 i x hx)⟩
def Only (E : TypeId) (g : Option Nat) (w w1 : World) : Prop := w.heap.size <= w1.heap.size /\ ∀ (b : Nat) (cs : Array Value) (T : TypeId) (fz : Nat × Nat), w.heap[b]? = some (.cells cs T fz) -> T ≠ E ∨ g ≠ some b -> w1.heap[b]? = w.heap[b]?
def KeepsT (E : TypeId) {α : Type} (R : World -> α -> List Value -> Prop) : Prop := ∀ g w w1 u cs, R w u cs -> Only E g w w1 -> R w1 u cs
section
variable {E : TypeId}
end
theorem cells_nil {sz : Nat} {W : World} {A : Option Addr} : Cells sz Ra W A [] := fun h => by simp at h
def Rds (sz : Nat) (Ra : World -> α -> List Value -> Prop) (W : World) (xs : List Value) (us : List α) : Prop :=
 xs.length = us.length * sz /\ ∀ j (hj : j < us.length), Ra W us[j] ((xs.drop (j * sz)).take sz)
theorem rds_nil {sz : Nat} {W : World} : Rds sz Ra W [] [] := ⟨by simp, fun j hj => by simp at hj⟩
theorem rds_next {sz : Nat} (ha : Keeps Ra) {w w1 : World} {xs : List Value} {us : List α} (h : Rds sz Ra w xs us) (hw : Below w.heap.size w w1) : Rds sz Ra w1 xs us := ⟨h.1, fun j hj => ha _ _ _ _ (h.2 j hj) hw⟩
theorem rds_app {sz : Nat} {w : World} {xs cs : List Value} {us : List α} {u : α} (h : Rds sz Ra w xs us) (hu : Ra w u cs) (hl : cs.length = sz) : Rds sz Ra w (xs ++ cs) (us ++ [u]) := by
 refine ⟨by rw [List.length_append, h.1, hl, List.length_append, List.length_singleton, Nat.add_mul, Nat.one_mul], fun j hj => ?_⟩
 rw [List.length_append, List.length_singleton] at hj
 by_cases hlt : j < us.length
 ·have h1 := h.2 j hlt
  rw [List.getElem_append_left hlt]
  have hm : j * sz + sz <= us.length * sz := by rw [<- Nat.succ_mul]; exact Nat.mul_le_mul_right _ hlt
  have e : ((xs ++ cs).drop (j * sz)).take sz = (xs.drop (j * sz)).take sz := by
   rw [List.drop_append_of_le_length (by rw [h.1]; omega), List.take_append_of_le_length (by rw [List.length_drop, h.1]; omega)]
  rw [e]; exact h1
 ·obtain rfl : j = us.length := by omega
  have e : ((xs ++ cs).drop (us.length * sz)).take sz = cs := by
   rw [<- h.1, List.drop_left, List.take_of_length_le (by omega)]
  rw [e, List.getElem_append_right (Nat.le_refl _)]
  simpa using hu
theorem rds_cells {sz cap : Nat} {W : World} {base : Nat} {E : TypeId} {A : Option Addr} {xs : List Value} {us : List α} (ho : W.ownsRow base E sz (.slice A us.length cap) us.length xs) (h : Rds sz Ra W xs us) : Cells sz Ra W A us := fun h0 => by
 obtain ⟨x, c, hv, _, hlt⟩ := ho.form h0
 have hA : A = some ⟨x, 0, none⟩ := by injection hv
 subst hA
 refine ⟨x, 0, rfl, hlt, fun j hj => ⟨(xs.drop (j * sz)).take sz, ?_, h.2 j hj, fun i y hy => ?_⟩⟩
 ·have hm : j * sz + sz <= us.length * sz := by rw [<- Nat.succ_mul]; exact Nat.mul_le_mul_right _ hj
  rw [List.length_take, List.length_drop, h.1]; omega
 ·rw [List.getElem?_take] at hy
  split at hy
  ·rw [List.getElem?_drop] at hy
   have := ho.cells (g := x) rfl (j * sz + i) y hy
   rw [Addr.add_lit, Nat.zero_add] at this
   rw [Nat.zero_add]
   exact this
  ·cases hy
end
structure Gr {α : Type} (E : TypeId) (sz : Nat) (Ra : World -> α -> List Value -> Prop) (w0 : World) (v : Value) (us : List α) (wr : World) : Prop where
 own : ∃ xs, Ow E sz w0 v us.length xs wr /\ Rds sz Ra wr xs us
section
variable {α : Type} {E : TypeId} {sz : Nat} {Ra : World -> α -> List Value -> Prop} {w0 wr w1 : World} {v : Value} {us : List α}
theorem Gr.bel (h : Gr E sz Ra w0 v us wr) : Below w0.heap.size w0 wr := by obtain ⟨xs, h1, _⟩ := h.own; exact h1.bel
theorem Gr.start (h : Below w0.heap.size w0 wr) : Gr E sz Ra w0 (.slice none 0 0) ([] : List α) wr := ⟨[], Ow.start _ _ h, rds_nil⟩
theorem Gr.next (ha : Keeps Ra) (h : Gr E sz Ra w0 v us wr) (hw : Below wr.heap.size wr w1) : Gr E sz Ra w0 v us w1 := by
 obtain ⟨xs, h1, h2⟩ := h.own
 exact ⟨xs, h1.next hw, rds_next ha h2 hw⟩
theorem Gr.form (h : Gr E sz Ra w0 v us wr) : ∃ (A : Option Addr) (cap : Nat), v = .slice A us.length cap /\ us.length <= cap /\ Cells sz Ra wr A us /\ Tyd (some E) wr A := by
 obtain ⟨xs, h1, h2⟩ := h.own
 obtain ⟨A, cap, rfl, hc⟩ := h1.form
 exact ⟨A, cap, rfl, hc, rds_cells h1.own h2, own_tyd h1.own⟩
theorem Gr.app {P : Program} {ops : Array Oper} {rest : List Oper} {o : Oper} {a : Act} {Q : Exit -> Act -> World -> Prop} (hT : KeepsT E Ra) (hgd : o.guard = none) (s x : Operand) (t : TypeId)
 (ho : o.op = .call { callee := .builtin .append, args := #[s, x], argTypes := #[t, t] }) (i : TypeInfo) (z : Value) (bytes : Nat) (ht : P.underlying t = some (.slice E)) (hi : P.info? E = some i) (hz : i.zero = some z)
 (hsize : i.size = sz) (hby : i.bytes = bytes) (hzs : z.cells.size = sz) (hsz : 0 < sz) (hs : a.eval s = v) (H : Gr E sz Ra w0 v us wr) (u : α) (cs : List Value) (hu : Ra wr u cs) (c : Nat) (E' : TypeId)
 (hx : a.eval x = .slice (some ⟨wr.heap.size, 0, none⟩) 1 c) (hl : cs.length = sz) (h1 : ∀ y ∈ cs, y.oneCell' = true) (h63 : us.length + 1 <= maxLen) (hbytes : (us.length + 1) * bytes <= 140737488355328)
 (h : ∀ v' w3, Gr E sz Ra w0 v' (us ++ [u]) w3 -> Only E v.ownBlock wr w3 -> (v'.ownBlock = v.ownBlock ∨ ∃ k, v'.ownBlock = some k /\ wr.heap.size <= k) -> wpList P ops Q rest (a.put o.dst v') w3) : wpList P ops Q (o :: rest) a (wr.alloc (.cells cs.toArray E')) := by
 obtain ⟨xs, H1, H2⟩ := H.own
 subst hs
 refine wpList_plain hgd fun K hK => ?_
 have hal := (Below.refl wr.heap.size wr).alloc (Nat.le_refl _) (.cells cs.toArray E')
 obtain ⟨v', w3, hrun, hown, hg, _, hblk⟩ := run_append_own_at (P := P) (wr.alloc (.cells cs.toArray E')) w0.heap.size t o.type E i z sz bytes ht hi hz hsize hby hzs hsz _ us.length xs (H1.own.alloc _) ⟨wr.heap.size, 0, none⟩ 1 c cs (by omega) (fun j y hj => by
  rw [Addr.add_lit, Nat.zero_add, World.cell?_alloc_mark]
  simpa using hj) h1 h63 hbytes (alloc_size H1.bel.size _)
 unfold Oper.wp execOp
 simp only [ho, resolve, invoke, builtin, Sem.run_bind, Sem.run_pure, Result.andThen_ok, List.map_toArray, List.map_cons, List.map_nil, hx, hrun]
 have hon : Only E (a.eval s).ownBlock wr w3 := by
  refine ⟨Nat.le_trans hal.size hg.size, fun b ks T fz hk hne => ?_⟩
  have hlt : b < wr.heap.size := by
   by_cases c : b < wr.heap.size
   ·exact c
   ·rw [Array.getElem?_eq_none (by omega)] at hk; cases hk
  refine (hg.block b (Nat.lt_of_lt_of_le hlt hal.size) (fun e => ?_)).trans (hal.block b hlt)
  rcases hne with hne | hne
  ·rcases H1.own.2 with ⟨hv, _⟩ | ⟨g, cap, cur, hv, _, hh, _⟩
   ·rw [hv] at e; simp [Value.ownBlock] at e
   ·rw [hv] at e
    have e2 : b = g := by simpa [Value.ownBlock] using e
    subst e2
    rw [hk] at hh
    injection hh with hh
    injection hh with _ ht
    exact hne ht
  ·exact hne e.symm
 refine hK _ _ (h v' w3 ⟨xs ++ cs, ⟨by rw [List.length_append, List.length_singleton]; exact hown, (H1.bel.alloc H1.bel.size _).grown hg (by have := H1.bel.size; simp; omega) (fun j hj => (H1.own.lt j hj).1)⟩, ?_⟩ hon ?_)
 ·exact rds_app ⟨H2.1, fun j hj => hT _ _ _ _ _ (H2.2 j hj) hon⟩ (hT _ _ _ _ _ hu hon) hl
 ·rcases hblk with h5 | h5
  ·exact .inl h5
  ·exact .inr ⟨_, h5, hal.size⟩
end
end Rl
namespace Ru
def wr (l : List Int) : List Int := l.flatMap Lib.encodeRuneZ
theorem wr_snoc (l : List Int) (c : Int) : wr (l ++ [c]) = wr l ++ Lib.encodeRuneZ c := by unfold wr; simp
theorem wr_len (l : List Int) : (wr l).length <= 4 * l.length := by
 induction l with
 | nil => simp [wr]
 | cons c t ih =>
   have := (Lib.encodeRuneZ_length c).2
   unfold wr at *
   rw [List.flatMap_cons, List.length_append, List.length_cons]
   omega
end Ru
def WriteAt (w : World) (l : List Int) (v3 v11 : Value) (wr : World) : Prop :=
 ∃ k : Nat, k <= l.length /\ v11 = .int .i64 k /\ wr.ownsRow w.heap.size 5 1 v3 (Ru.wr (l.take k)).length (nums .u8 (Ru.wr (l.take k))) /\ Below w.heap.size w wr
namespace Tk
def str (l : List Int) : ByteArray := strOfNums (Ru.wr l)
end Tk
theorem made_form {k : IntKind} {E : TypeId} {l : List Int} {w : World} {e : Ending} {w' : World} (h : Made k E l w e w') : ∃ (A : Option Addr) (cap : Nat), e = .returned (.slice A l.length cap) /\ l.length <= cap /\ Bs w' w'.heap.size k A l /\ Below w.heap.size w w' := by
 obtain ⟨v, rfl, hown, hb⟩ := h
 rcases hown.2 with ⟨rfl, h0⟩ | ⟨x, cap, cur, rfl, _, _, hc, _⟩
 ·exact ⟨none, 0, by rw [h0], by omega, fun hl => by omega, hb⟩
 ·exact ⟨_, cap, rfl, hc, Bs.of_own hown, hb⟩
theorem own_bs {w : World} {B : Nat} {k : IntKind} {E : TypeId} {l : List Int} {v : Value} (h : w.ownsRow B E 1 v l.length (nums k l)) : ∃ A cap, v = .slice A l.length cap /\ l.length <= cap /\ Bs w w.heap.size k A l := by
 rcases h.2 with ⟨rfl, h0⟩ | ⟨x, cap, cur, rfl, _, _, hc, _⟩
 ·exact ⟨none, 0, by rw [h0], by omega, fun hl => by omega⟩
 ·exact ⟨_, cap, rfl, hc, Bs.of_own h⟩
theorem conv_bytes {w : World} {B : Nat} {A : Option Addr} {l : List Int} (c : Nat) (h : Bs w B .u8 A l) : (convert 103 9 (.slice A l.length c)).run Try.prog w = .ok (.string (strOfNums l)) w := by
 by_cases h0 : 0 < l.length
 ·obtain ⟨b, off, rfl, _, hp⟩ := h h0
  exact run_convert_bytes_arg w 103 5 Try.underlying103 Try.underlying5 b off l.length c l rfl hp 9 Try.underlying9
 ·have hl : l = [] := List.eq_nil_of_length_eq_zero (by omega)
  subst hl
  cases A with
  | none => exact run_convert_bytes_nil w 103 5 Try.underlying103 Try.underlying5 0 c 9 Try.underlying9
  | some a => exact run_convert_bytes_back w 103 9 5 a c [] Try.underlying103 Try.underlying5 Try.underlying9 (fun j hj => by cases hj)
theorem app_u8 {ops : Array Oper} {rest : List Oper} {o : Oper} {a : Act} {Q : Exit -> Act -> World -> Prop} {w0 wr : World} {v : Value} {l : List Int} (hgd : o.guard = none) (s x : Operand)
 (ho : o.op = .call { callee := .builtin .append, args := #[s, x], argTypes := #[103, 103] }) (hs : a.eval s = v) (H : Ow 5 1 w0 v l.length (nums .u8 l) wr) (y : Int) (c : Nat) (E' : TypeId)
 (hx : a.eval x = .slice (some ⟨wr.heap.size, 0, none⟩) 1 c) (hm : l.length <= 1000000)
 (h : ∀ v' w3, Ow 5 1 w0 v' (l ++ [y]).length (nums .u8 (l ++ [y])) w3 -> wpList Try.prog ops Q rest (a.put o.dst v') w3) : wpList Try.prog ops Q (o :: rest) a (wr.alloc (.cells #[.int .u8 y] E')) := by
 obtain ⟨i0, hi, hz0, hz1, hz2⟩ := info_parts Try.info5
 refine app_own hgd s x 103 ho i0 (.int .u8 0) 1 Try.underlying103 hi hz0 hz1 hz2 rfl (by decide) hs H [.int .u8 y] c E' _ rfl hx rfl (by simp [Value.oneCell']) (by unfold maxLen; omega) (by omega) (fun v' w3 H3 => ?_)
 refine h v' w3 ?_
 rw [List.length_append, nums_app]
 exact H3
theorem low_take {l : List Int} {k : Nat} (h : k < l.length) : (l.map Ru.lowI).take (k + 1) = (l.map Ru.lowI).take k ++ [Ru.lowI (Ru.g l k)] := by
 rw [List.take_succ_eq_append_getElem (by simpa using h), List.getElem_map, Ru.g_eq h]
def LowrAt (w : World) (s : ByteArray) (v3 v4 : Value) (wr : World) : Prop :=
 ∃ k : Nat, k <= s.size /\ v4 = .int .i64 k /\ Ow 5 1 w v3 (((Ru.bs s).map Ru.lowI).take k).length (nums .u8 (((Ru.bs s).map Ru.lowI).take k)) wr
theorem rlower_any (s : ByteArray) (hm : s.size <= 90000) (w : World) :
 Calls Try.prog 50 #[.string s] w (Sg (Ru.lowS s) w) := by
 have HL : Hid ((Ru.bs s).length = s.size) := Lib.hid (Ru.bs_len s)
 go_enter Try.func50, Try.ntmps50
 go_wp2_with fail
 go_loopw [3, 4] (fun v3 v4 wr => LowrAt w s v3 v4 wr) (fun _ v4 _ => s.size - (RowKit.intOf v4).toNat)
 case atStart => exact ⟨0, Nat.zero_le _, rfl, Ow.start _ _ (Below.refl _ _)⟩
 case round =>
  obtain ⟨k, hk, rfl, hown⟩ := hrel
  have HO := Lib.hid hown
  clear hown
  have hml : (((Ru.bs s).map Ru.lowI).take k).length <= 1000000 := by
   have := List.length_take_le k ((Ru.bs s).map Ru.lowI); omega
  by_cases hlt : k < s.size
  ·have hb0 := (Ru.bs_by s).at_ k
   have HN := Lib.hid (low_take (l := Ru.bs s) (k := k) (by rw [HL.out]; exact hlt))
   rw [Ru.bs_get s k hlt] at hb0
   have HG := Lib.hid (Ru.bs_get s k hlt)
   by_cases u1 : 65 <= (s[k].toNat : Int)
   ·by_cases u2 : (s[k].toNat : Int) <= 90
    ·have HV : Hid ((s[k].toNat : Int) + 32 = Ru.lowI (Ru.g (Ru.bs s) k)) := Lib.hid (by rw [HG.out]; unfold Ru.lowI; rw [if_pos ⟨u1, u2⟩])
     generalize ((Ru.bs s).map Ru.lowI).take k = l at *
     go_wp2_with (at_builtin; refine app_u8 rfl _ _ rfl rfl HO.out ((s[k].toNat : Int) + 32) _ _ rfl hml ?_; intro v' w3 H3; have HO3 := Lib.hid H3; clear H3)
     go_roundw
     case rel => exact ⟨k + 1, by omega, by go_num, by rw [HN.out, <- HV.out]; exact HO3.out⟩
     case measure => simp [RowKit.intOf]; omega
    ·have HV : Hid ((s[k].toNat : Int) = Ru.lowI (Ru.g (Ru.bs s) k)) := Lib.hid (by rw [HG.out]; unfold Ru.lowI; rw [if_neg (fun c => u2 c.2)])
     have d2 : decide ((s[k].toNat : Int) <= 90) = false := decide_eq_false u2
     generalize ((Ru.bs s).map Ru.lowI).take k = l at *
     go_wp2_with (at_builtin; refine app_u8 rfl _ _ rfl rfl HO.out (s[k].toNat : Int) _ _ rfl hml ?_; intro v' w3 H3; have HO3 := Lib.hid H3; clear H3)
     go_roundw
     case rel => exact ⟨k + 1, by omega, by go_num, by rw [HN.out, <- HV.out]; exact HO3.out⟩
     case measure => simp [RowKit.intOf]; omega
   ·have HV : Hid ((s[k].toNat : Int) = Ru.lowI (Ru.g (Ru.bs s) k)) := Lib.hid (by rw [HG.out]; unfold Ru.lowI; rw [if_neg (fun c => u1 c.1)])
    have d1 : decide (65 <= (s[k].toNat : Int)) = false := decide_eq_false u1
    generalize ((Ru.bs s).map Ru.lowI).take k = l at *
    go_wp2_with (at_builtin; refine app_u8 rfl _ _ rfl rfl HO.out (s[k].toNat : Int) _ _ rfl hml ?_; intro v' w3 H3; have HO3 := Lib.hid H3; clear H3)
    go_roundw
    case rel => exact ⟨k + 1, by omega, by go_num, by rw [HN.out, <- HV.out]; exact HO3.out⟩
    case measure => simp [RowKit.intOf]; omega
  ·obtain rfl : k = s.size := by omega
   have HT : Hid (((Ru.bs s).map Ru.lowI).take s.size = (Ru.bs s).map Ru.lowI) := Lib.hid (List.take_of_length_le (by rw [List.length_map, HL.out]; exact Nat.le_refl _))
   obtain ⟨A, cap, rfl, hc, hB⟩ := own_bs HO.out.own
   have hconv := conv_bytes cap hB
   have HB := Lib.hid HO.out.bel
   have HTT : Hid (strOfNums (((Ru.bs s).map Ru.lowI).take s.size) = Ru.lowS s) := Lib.hid (by rw [HT.out]; rfl)
   clear HO hB
   generalize ((Ru.bs s).map Ru.lowI).take s.size = l at *
   go_wp2_with fail
   go_ret
   exact ⟨by rw [<- HTT.out]; rfl, HB.out⟩
namespace Vl
def PrtQ (w : World) (_ : World) (p : Prt) (cs : List Value) : Prop :=
 ∃ (A : Option Addr) (cap : Nat), cs = [.int .i64 p.1.1, .string p.1.2.1, .int .i64 p.1.2.2, .slice A p.2.length cap] /\ p.2.length <= cap /\ Ts w w.heap.size A p.2
abbrev prtV (t : Tk.Tok) (A : Option Addr) (n cap : Nat) : Value := .agg #[.int .i64 t.1, .string t.2.1, .int .i64 t.2.2, .slice A n cap]
abbrev prtO (t : Tk.Tok) (A : Option Addr) (n cap : Nat) : Obj := .cells #[.int .i64 t.1, .string t.2.1, .int .i64 t.2.2, .slice A n cap] 71
theorem four_cells {w : World} {k : Nat} {x0 x1 x2 x3 : Value} {E : TypeId} (h : w.heap[k]? = some (.cells #[x0, x1, x2, x3] E (0, 0))) :
 w.cell? ⟨k, 0, none⟩ = some x0 /\ w.cell? ⟨k, 1, none⟩ = some x1 /\ w.cell? ⟨k, 2, none⟩ = some x2 /\ w.cell? ⟨k, 3, none⟩ = some x3 := by
 refine ⟨?_, ?_, ?_, ?_⟩ <;> simp [World.cell?, h]
theorem boxed (w : World) (t : Tk.Tok) (A : Option Addr) (n cap : Nat) : ∃ W0, w.alloc (prtO t A n cap) = W0 /\ Below w.heap.size w W0 /\ W0.heap[w.heap.size]? = some (prtO t A n cap) /\ w.heap.size < W0.heap.size :=
 ⟨_, rfl, (Below.refl _ _).alloc (Nat.le_refl _) _, heap_alloc_new w _, by simp⟩
end Vl
theorem str_yesL (l : List UInt8) {s : ByteArray} (h : s = ⟨l.toArray⟩) : (s.toList == l) = true := by rw [h, Lib.toList_data]; simp
theorem str_noL (l : List UInt8) {s : ByteArray} (h : s ≠ ⟨l.toArray⟩) : (s.toList == l) = false := by
 cases hc : (s.toList == l) with
 | false => rfl
 | true => exact absurd (str_ext (by rw [beq_iff_eq.1 hc, Lib.toList_data])) h
open Vl
theorem vlow_any (t : Tk.Tok) (hs : t.2.1.size <= 90000) (A : Option Addr) (n cap : Nat) (w : World) : Calls Try.prog 52 #[prtV t A n cap] w (Sg (Ru.lowS t.2.1) w) := by
 obtain ⟨W0, hW, hb0, k0, _⟩ := boxed w t A n cap
 obtain ⟨p0, p1, p2, p3⟩ := four_cells k0
 have C : Hid (∀ W, Calls Try.prog 50 #[.string t.2.1] W (Sg (Ru.lowS t.2.1) W)) := Lib.hid fun W => rlower_any _ hs W
 have HB0 := Lib.hid hb0
 have HW := Lib.hid hW
 clear hb0 k0 hW
 go_enter Try.func52, Try.ntmps52
 go_upto_region 1 with fail
 rw [HW.out]
 clear HW
 go_wp2_with (go_at_call 50; ((with_reducible refine (C.out _).mono ?_); rintro e w1 ⟨rfl, b1⟩; have HB1 := Lib.hid (below_next HB0.out b1); clear b1))
 go_ret
 exact ⟨rfl, HB1.out⟩
theorem vnamed_any (t : Tk.Tok) (hs : t.2.1.size <= 90000) (A : Option Addr) (n cap : Nat) (w : World) : Calls Try.prog 43 #[prtV t A n cap] w (Bo (nam t) w) := by
 obtain ⟨W0, hW, hb0, k0, hlt⟩ := boxed w t A n cap
 obtain ⟨p0, p1, p2, p3⟩ := four_cells k0
 have C : Hid (∀ W, Calls Try.prog 52 #[prtV t A n cap] W (Sg (Ru.lowS t.2.1) W)) := Lib.hid fun W => vlow_any t hs A n cap W
 have HN : Hid (nam t = decide (t.1 = 2 /\ Ru.lowS t.2.1 ≠ wNone /\ Ru.lowS t.2.1 ≠ wAuto /\ Ru.lowS t.2.1 ≠ wInitial /\ Ru.lowS t.2.1 ≠ wInherit)) := Lib.hid rfl
 have HB0 := Lib.hid hb0
 have HW := Lib.hid hW
 clear hb0 k0 hW hs
 obtain ⟨kd, tx, num⟩ := t
 simp only at *
 generalize nam (kd, tx, num) = res at *
 generalize Ru.lowS tx = ls at *
 by_cases h2 : kd = 2
 ·subst h2
  by_cases c0 : ls = wNone
  ·have e0 := str_yesL [110, 111, 110, 101] c0
   have HV : Hid (res = false) := Lib.hid (by rw [HN.out]; exact decide_eq_false (fun c => c.2.1 c0))
   clear HN c0
   go_enter Try.func43, Try.ntmps43
   go_upto_region 1 with fail
   rw [HW.out]
   clear HW
   go_wp2_with (go_at_call 52; ((with_reducible refine (C.out _).mono ?_); rintro e w1 ⟨rfl, b1⟩; have HB0 := Lib.hid (below_next HB0.out b1); have p0 := (b1.cell (p := ⟨w.heap.size, 0, none⟩) hlt).trans p0; have p1 := (b1.cell (p := ⟨w.heap.size, 1, none⟩) hlt).trans p1; have p2 := (b1.cell (p := ⟨w.heap.size, 2, none⟩) hlt).trans p2; have p3 := (b1.cell (p := ⟨w.heap.size, 3, none⟩) hlt).trans p3; have hlt := Nat.lt_of_lt_of_le hlt b1.size; clear b1))
   go_ret
   exact ⟨by rw [HV.out]; rfl, HB0.out⟩
  ·have e0 := str_noL [110, 111, 110, 101] c0
   by_cases c1 : ls = wAuto
   ·have e1 := str_yesL [97, 117, 116, 111] c1
    have HV : Hid (res = false) := Lib.hid (by rw [HN.out]; exact decide_eq_false (fun c => c.2.2.1 c1))
    clear HN c1 c0
    go_enter Try.func43, Try.ntmps43
    go_upto_region 1 with fail
    rw [HW.out]
    clear HW
    go_wp2_with (go_at_call 52; ((with_reducible refine (C.out _).mono ?_); rintro e w1 ⟨rfl, b1⟩; have HB0 := Lib.hid (below_next HB0.out b1); have p0 := (b1.cell (p := ⟨w.heap.size, 0, none⟩) hlt).trans p0; have p1 := (b1.cell (p := ⟨w.heap.size, 1, none⟩) hlt).trans p1; have p2 := (b1.cell (p := ⟨w.heap.size, 2, none⟩) hlt).trans p2; have p3 := (b1.cell (p := ⟨w.heap.size, 3, none⟩) hlt).trans p3; have hlt := Nat.lt_of_lt_of_le hlt b1.size; clear b1))
    go_ret
    exact ⟨by rw [HV.out]; rfl, HB0.out⟩
   ·have e1 := str_noL [97, 117, 116, 111] c1
    by_cases c2 : ls = wInitial
    ·have e2 := str_yesL [105, 110, 105, 116, 105, 97, 108] c2
     have HV : Hid (res = false) := Lib.hid (by rw [HN.out]; exact decide_eq_false (fun c => c.2.2.2.1 c2))
     clear HN c2 c0 c1
     go_enter Try.func43, Try.ntmps43
     go_upto_region 1 with fail
     rw [HW.out]
     clear HW
     go_wp2_with (go_at_call 52; ((with_reducible refine (C.out _).mono ?_); rintro e w1 ⟨rfl, b1⟩; have HB0 := Lib.hid (below_next HB0.out b1); have p0 := (b1.cell (p := ⟨w.heap.size, 0, none⟩) hlt).trans p0; have p1 := (b1.cell (p := ⟨w.heap.size, 1, none⟩) hlt).trans p1; have p2 := (b1.cell (p := ⟨w.heap.size, 2, none⟩) hlt).trans p2; have p3 := (b1.cell (p := ⟨w.heap.size, 3, none⟩) hlt).trans p3; have hlt := Nat.lt_of_lt_of_le hlt b1.size; clear b1))
     go_ret
     exact ⟨by rw [HV.out]; rfl, HB0.out⟩
    ·have e2 := str_noL [105, 110, 105, 116, 105, 97, 108] c2
     by_cases c3 : ls = wInherit
     ·have e3 := str_yesL [105, 110, 104, 101, 114, 105, 116] c3
      have HV : Hid (res = false) := Lib.hid (by rw [HN.out]; exact decide_eq_false (fun c => c.2.2.2.2 c3))
      clear HN c3 c0 c1 c2
      go_enter Try.func43, Try.ntmps43
      go_upto_region 1 with fail
      rw [HW.out]
      clear HW
      go_wp2_with (go_at_call 52; ((with_reducible refine (C.out _).mono ?_); rintro e w1 ⟨rfl, b1⟩; have HB0 := Lib.hid (below_next HB0.out b1); have p0 := (b1.cell (p := ⟨w.heap.size, 0, none⟩) hlt).trans p0; have p1 := (b1.cell (p := ⟨w.heap.size, 1, none⟩) hlt).trans p1; have p2 := (b1.cell (p := ⟨w.heap.size, 2, none⟩) hlt).trans p2; have p3 := (b1.cell (p := ⟨w.heap.size, 3, none⟩) hlt).trans p3; have hlt := Nat.lt_of_lt_of_le hlt b1.size; clear b1))
      go_ret
      exact ⟨by rw [HV.out]; rfl, HB0.out⟩
     ·have e3 := str_noL [105, 110, 104, 101, 114, 105, 116] c3
      have HV : Hid (res = true) := Lib.hid (by rw [HN.out]; exact decide_eq_true ⟨rfl, c0, c1, c2, c3⟩)
      clear HN c0 c1 c2 c3
      go_enter Try.func43, Try.ntmps43
      go_upto_region 1 with fail
      rw [HW.out]
      clear HW
      go_wp2_with (go_at_call 52; ((with_reducible refine (C.out _).mono ?_); rintro e w1 ⟨rfl, b1⟩; have HB0 := Lib.hid (below_next HB0.out b1); have p0 := (b1.cell (p := ⟨w.heap.size, 0, none⟩) hlt).trans p0; have p1 := (b1.cell (p := ⟨w.heap.size, 1, none⟩) hlt).trans p1; have p2 := (b1.cell (p := ⟨w.heap.size, 2, none⟩) hlt).trans p2; have p3 := (b1.cell (p := ⟨w.heap.size, 3, none⟩) hlt).trans p3; have hlt := Nat.lt_of_lt_of_le hlt b1.size; clear b1))
      go_ret
      exact ⟨by rw [HV.out]; rfl, HB0.out⟩
 ·have e2 : (kd == 2) = false := beq_false_of_ne h2
  have HV : Hid (res = false) := Lib.hid (by rw [HN.out]; exact decide_eq_false (fun c => h2 c.1))
  clear HN h2
  go_enter Try.func43, Try.ntmps43
  go_upto_region 1 with fail
  rw [HW.out]
  clear HW
  go_wp2_with (go_at_call 52; ((with_reducible refine (C.out _).mono ?_); rintro e w1 ⟨rfl, b1⟩; have HB0 := Lib.hid (below_next HB0.out b1); have p0 := (b1.cell (p := ⟨w.heap.size, 0, none⟩) hlt).trans p0; have p1 := (b1.cell (p := ⟨w.heap.size, 1, none⟩) hlt).trans p1; have p2 := (b1.cell (p := ⟨w.heap.size, 2, none⟩) hlt).trans p2; have p3 := (b1.cell (p := ⟨w.heap.size, 3, none⟩) hlt).trans p3; have hlt := Nat.lt_of_lt_of_le hlt b1.size; clear b1))
  go_ret
  exact ⟨by rw [HV.out]; rfl, HB0.out⟩
theorem vident_any (t : Tk.Tok) (hs : t.2.1.size <= 90000) (A : Option Addr) (n cap : Nat) (c : ByteArray) (w : World) : Calls Try.prog 39 #[prtV t A n cap, .string c] w (Bo (decide (t.1 = 2 /\ Ru.lowS t.2.1 = c)) w) := by
 obtain ⟨W0, hW, hb0, k0, hlt⟩ := boxed w t A n cap
 obtain ⟨p0, p1, p2, p3⟩ := four_cells k0
 have C : Hid (∀ W, Calls Try.prog 52 #[prtV t A n cap] W (Sg (Ru.lowS t.2.1) W)) := Lib.hid fun W => vlow_any t hs A n cap W
 have HB0 := Lib.hid hb0
 have HW := Lib.hid hW
 clear hb0 k0 hW hs
 obtain ⟨kd, tx, num⟩ := t
 simp only at *
 generalize Ru.lowS tx = ls at *
 by_cases h2 : kd = 2
 ·subst h2
  have HV : Hid (decide ((2 : Int) = 2 /\ ls = c) = (ls.toList == c.toList)) := Lib.hid (by rw [str_same]; exact decide_eq_decide.2 ⟨fun h => h.2, fun h => ⟨rfl, h⟩⟩)
  go_enter Try.func39, Try.ntmps39
  go_upto_region 1 with fail
  rw [HW.out]
  clear HW
  go_wp2_with (go_at_call 52; ((with_reducible refine (C.out _).mono ?_); rintro e w1 ⟨rfl, b1⟩; have HB0 := Lib.hid (below_next HB0.out b1); clear b1))
  go_ret
  exact ⟨by rw [HV.out]; rfl, HB0.out⟩
 ·have e2 : (kd == 2) = false := beq_false_of_ne h2
  have HV : Hid (decide (kd = 2 /\ ls = c) = false) := Lib.hid (decide_eq_false (fun c => h2 c.1))
  clear h2
  go_enter Try.func39, Try.ntmps39
  go_upto_region 1 with fail
  rw [HW.out]
  clear HW
  go_wp2_with fail
  go_ret
  exact ⟨by rw [HV.out]; rfl, HB0.out⟩
end Go.Proofs.Ytaofkaehhikfaaa
namespace Go.Proofs.Ytaofkaehhikfaaa
open Go.RowKit Vl
theorem tk_mem {ts : List Tk.Tok} {j : Nat} (h : j < ts.length) : Tk.tk ts j ∈ ts := by rw [Tk.tk_eq h]; exact List.getElem_mem h
theorem cword_any (l : List Tk.Tok) (hm : l.length <= 1000) (hs : ∀ x ∈ l, x.2.1.size <= 90000) (A : Option Addr) (cap : Nat) (w : World) (h : Ts w w.heap.size A l) :
 Calls Try.prog 35 #[.slice A l.length cap] w (Sg (wrd l) w) := by
 by_cases h1 : l.length = 1
 ·obtain ⟨t, rfl⟩ : ∃ t, l = [t] := by
   match l, h1 with
   | [t], _ => exact ⟨t, rfl⟩
  obtain ⟨b, off, rfl, hb, hp⟩ := h (by simp)
  obtain ⟨q0, q1, q2⟩ := hp 0 (by simp)
  obtain ⟨kd, tx, num⟩ := t
  have hsz := hs (kd, tx, num) (by simp)
  have C : Hid (∀ W, Calls Try.prog 47 #[.string tx] W (Sg (Ru.lowS tx) W)) := Lib.hid fun W => lower_any tx W hsz
  have q0' : w.cell? ⟨b, off, none⟩ = some (.int .i64 kd) := q0
  have q1' : w.cell? ⟨b, off + 1, none⟩ = some (.string tx) := q1
  clear hp hs q0 q1 q2 h h1
  show Calls _ _ #[.slice (some ⟨b, off, none⟩) 1 cap] _ _
  by_cases h2 : kd = 2
  ·have HV : Hid (wrd [(kd, tx, num)] = Ru.lowS tx) := Lib.hid (wrd_one h2)
   have e2 : (kd != 2) = false := by simp [h2]
   clear h2
   go_enter Try.func35, Try.ntmps35
   go_wp2_with (go_at_call 47; ((with_reducible refine (C.out _).mono ?_); rintro e w1 ⟨rfl, b1⟩; have HB1 := Lib.hid b1; clear b1))
   go_ret
   exact ⟨by rw [HV.out]; rfl, HB1.out⟩
  ·have HV : Hid (wrd [(kd, tx, num)] = ⟨#[]⟩) := Lib.hid (wrd_no fun t ht => by simp at ht; rw [<- ht]; exact h2)
   have e2 : (kd != 2) = true := bne_iff_ne.2 h2
   clear h2
   go_enter Try.func35, Try.ntmps35
   go_wp2_with fail
   go_ret
   exact ⟨by rw [HV.out]; rfl, Below.refl _ _⟩
 ·have HV : Hid (wrd l = ⟨#[]⟩) := Lib.hid (wrd_no fun t ht => absurd (by rw [ht]; rfl) h1)
  have e1 : ((l.length : Int) != 1) = true := bne_iff_ne.2 (by omega)
  clear h1 h
  go_enter Try.func35, Try.ntmps35
  go_wp2_with fail
  go_ret
  exact ⟨by rw [HV.out]; rfl, Below.refl _ _⟩
theorem cname_any (t : Tk.Tok) (hs : t.2.1.size <= 90000) (w : World) : Calls Try.prog 72 #[.agg #[.int .i64 t.1, .string t.2.1, .int .i64 t.2.2]] w (Bo (nam t) w) := by
 obtain ⟨kd, tx, num⟩ := t
 obtain ⟨W0, hW⟩ : ∃ W0, W0 = w.alloc (.cells #[.int .i64 kd, .string tx, .int .i64 num] 36) := ⟨_, rfl⟩
 have hb0 : Below w.heap.size w W0 := by rw [hW]; exact (Below.refl _ _).alloc (Nat.le_refl _) _
 have k0 : W0.heap[w.heap.size]? = some (.cells #[.int .i64 kd, .string tx, .int .i64 num] 36 (0, 0)) := by rw [hW]; exact heap_alloc_new w _
 obtain ⟨p0, p1, p2⟩ := tok3_cells k0
 have HB0 := Lib.hid hb0
 have HW := Lib.hid hW.symm
 have C : Hid (∀ W, Calls Try.prog 47 #[.string tx] W (Sg (Ru.lowS tx) W)) := Lib.hid fun W => lower_any tx W hs
 have HN : Hid (nam (kd, tx, num) = decide (kd = 2 /\ Ru.lowS tx ≠ wNone /\ Ru.lowS tx ≠ wAuto /\ Ru.lowS tx ≠ wInitial /\ Ru.lowS tx ≠ wInherit)) := Lib.hid rfl
 clear hb0 k0 hW hs
 simp only at *
 generalize nam (kd, tx, num) = res at *
 generalize Ru.lowS tx = ls at *
 by_cases h2 : kd = 2
 ·have e2 : (kd != 2) = false := by simp [h2]
  by_cases c0 : ls = wNone
  ·have e0' := str_yesL [110, 111, 110, 101] c0
   have HV : Hid (res = false) := Lib.hid (by rw [HN.out]; exact decide_eq_false (fun c => c.2.1 c0))
   clear HN h2 c0
   go_enter Try.func72, Try.ntmps72
   go_upto_region 1 with fail
   rw [HW.out]
   clear HW
   go_wp2_with (go_at_call 47; ((with_reducible refine (C.out _).mono ?_); rintro e w1 ⟨rfl, b1⟩; have HB0 := Lib.hid (below_next HB0.out b1); clear b1))
   go_ret
   exact ⟨by rw [HV.out]; rfl, HB0.out⟩
  ·have e0' := str_noL [110, 111, 110, 101] c0
   by_cases c1 : ls = wAuto
   ·have e1' := str_yesL [97, 117, 116, 111] c1
    have HV : Hid (res = false) := Lib.hid (by rw [HN.out]; exact decide_eq_false (fun c => c.2.2.1 c1))
    clear HN h2 c1 c0
    go_enter Try.func72, Try.ntmps72
    go_upto_region 1 with fail
    rw [HW.out]
    clear HW
    go_wp2_with (go_at_call 47; ((with_reducible refine (C.out _).mono ?_); rintro e w1 ⟨rfl, b1⟩; have HB0 := Lib.hid (below_next HB0.out b1); clear b1))
    go_ret
    exact ⟨by rw [HV.out]; rfl, HB0.out⟩
   ·have e1' := str_noL [97, 117, 116, 111] c1
    by_cases c2 : ls = wInitial
    ·have e2' := str_yesL [105, 110, 105, 116, 105, 97, 108] c2
     have HV : Hid (res = false) := Lib.hid (by rw [HN.out]; exact decide_eq_false (fun c => c.2.2.2.1 c2))
     clear HN h2 c2 c0 c1
     go_enter Try.func72, Try.ntmps72
     go_upto_region 1 with fail
     rw [HW.out]
     clear HW
     go_wp2_with (go_at_call 47; ((with_reducible refine (C.out _).mono ?_); rintro e w1 ⟨rfl, b1⟩; have HB0 := Lib.hid (below_next HB0.out b1); clear b1))
     go_ret
     exact ⟨by rw [HV.out]; rfl, HB0.out⟩
    ·have e2' := str_noL [105, 110, 105, 116, 105, 97, 108] c2
     by_cases c3 : ls = wInherit
     ·have e3' := str_yesL [105, 110, 104, 101, 114, 105, 116] c3
      have HV : Hid (res = false) := Lib.hid (by rw [HN.out]; exact decide_eq_false (fun c => c.2.2.2.2 c3))
      clear HN h2 c3 c0 c1 c2
      go_enter Try.func72, Try.ntmps72
      go_upto_region 1 with fail
      rw [HW.out]
      clear HW
      go_wp2_with (go_at_call 47; ((with_reducible refine (C.out _).mono ?_); rintro e w1 ⟨rfl, b1⟩; have HB0 := Lib.hid (below_next HB0.out b1); clear b1))
      go_ret
      exact ⟨by rw [HV.out]; rfl, HB0.out⟩
     ·have e3' := str_noL [105, 110, 104, 101, 114, 105, 116] c3
      have HV : Hid (res = true) := Lib.hid (by rw [HN.out]; exact decide_eq_true ⟨h2, c0, c1, c2, c3⟩)
      clear HN h2 c0 c1 c2 c3
      go_enter Try.func72, Try.ntmps72
      go_upto_region 1 with fail
      rw [HW.out]
      clear HW
      go_wp2_with (go_at_call 47; ((with_reducible refine (C.out _).mono ?_); rintro e w1 ⟨rfl, b1⟩; have HB0 := Lib.hid (below_next HB0.out b1); clear b1))
      go_ret
      exact ⟨by rw [HV.out]; rfl, HB0.out⟩
 ·have e2 : (kd != 2) = true := bne_iff_ne.2 h2
  have HV : Hid (res = false) := Lib.hid (by rw [HN.out]; exact decide_eq_false (fun c => h2 c.1))
  clear HN h2
  go_enter Try.func72, Try.ntmps72
  go_upto_region 1 with fail
  rw [HW.out]
  clear HW
  go_wp2_with fail
  go_ret
  exact ⟨by rw [HV.out]; rfl, HB0.out⟩
def ldT (l : List Tk.Tok) : Option (ByteArray × List Tk.Tok) := match l with
 | t :: r => if nam t = true then some (t.2.1, r) else none
 | [] => none
def LdYes (s : ByteArray) (r : List Tk.Tok) (w : World) (e : Ending) (w' : World) : Prop :=
 ∃ (A : Option Addr) (c : Nat), e = .returned (.tuple #[.string s, .slice A r.length c, .bool true]) /\ r.length <= c /\ Ts w' w'.heap.size A r /\ Below w.heap.size w w'
def LdNo (w : World) (e : Ending) (w' : World) : Prop := e = .returned (.tuple #[.string ⟨#[]⟩, .slice none 0 0, .bool false]) /\ Below w.heap.size w w'
def LdIs (o : Option (ByteArray × List Tk.Tok)) (w : World) (e : Ending) (w' : World) : Prop := (∀ s r, o = some (s, r) -> LdYes s r w e w') /\ (o = none -> LdNo w e w')
theorem ts_cdr {w : World} {B b off : Nat} {t : Tk.Tok} {r : List Tk.Tok} (h : Ts w B (some ⟨b, off, none⟩) (t :: r)) : Ts w B (some ⟨b, off + 3, none⟩) r := fun hr => by
 obtain ⟨b', off', e, hb, hc⟩ := h (by simp)
 injection e with e
 injection e with e1 e2
 subst e1 e2
 refine ⟨b, off + 3, rfl, hb, fun j hj => ?_⟩
 have := hc (j + 1) (by simp; omega)
 rw [show off + 3 + j * 3 = off + (j + 1) * 3 by omega]
 exact this
theorem cleading_any (l : List Tk.Tok) (hm : l.length <= 1000) (hs : ∀ x ∈ l, x.2.1.size <= 90000) (A : Option Addr) (cap : Nat) (hcap : l.length <= cap) (w : World) (h : Ts w w.heap.size A l) :
 Calls Try.prog 42 #[.slice A l.length cap] w (LdIs (ldT l) w) := by
 cases l with
 | nil =>
   clear h
   show Calls _ _ #[.slice A 0 cap] _ _
   go_enter Try.func42, Try.ntmps42
   go_wp2_with fail
   go_ret3
   exact ⟨fun s r h => (by cases h), fun _ => ⟨rfl, Below.refl _ _⟩⟩
 | cons t r =>
   obtain ⟨b, off, rfl, hb, hp⟩ := h (by simp)
   obtain ⟨q0, q1, q2⟩ := hp 0 (by simp)
   have C : Hid (∀ W, Calls Try.prog 72 #[.agg #[.int .i64 t.1, .string t.2.1, .int .i64 t.2.2]] W (Bo (nam t) W)) := Lib.hid fun W => cname_any t (hs t (by simp)) W
   have HT := Lib.hid (ts_cdr h)
   have HB := Lib.hid (Below.refl w.heap.size w)
   obtain ⟨kd, tx, num⟩ := t
   have q0' : w.cell? ⟨b, off, none⟩ = some (.int .i64 kd) := q0
   have q1' : w.cell? ⟨b, off + 1, none⟩ = some (.string tx) := q1
   have q2' : w.cell? ⟨b, off + 2, none⟩ = some (.int .i64 num) := q2
   have hl : r.length + 1 <= 1000 := hm
   have hc1 : r.length + 1 <= cap := hcap
   clear hp hs q0 q1 q2 h hm hcap
   have e0 : (((r.length + 1 : Nat) : Int) == 0) = false := beq_false_of_ne (by omega)
   show Calls _ _ #[.slice (some ⟨b, off, none⟩) (r.length + 1) cap] _ _
   cases hn : nam (kd, tx, num) with
   | false =>
     have HV : Hid (ldT ((kd, tx, num) :: r) = none) := Lib.hid (if_neg (by rw [hn]; simp))
     simp only [hn] at C
     clear hn
     go_enter Try.func42, Try.ntmps42
     go_wp2_with (go_at_call 72; ((with_reducible refine (C.out _).mono ?_); rintro e w1 ⟨rfl, b1⟩; have HB1 := Lib.hid b1; clear b1))
     go_ret3
     exact ⟨fun s r h => (by rw [HV.out] at h; cases h), fun _ => ⟨rfl, HB1.out⟩⟩
   | true =>
     have HV : Hid (ldT ((kd, tx, num) :: r) = some (tx, r)) := Lib.hid (if_pos hn)
     simp only [hn] at C
     clear hn
     by_cases hcc : cap = 1
     ·have hr0 : r.length = 0 := by omega
      have hr : r = [] := List.eq_nil_of_length_eq_zero hr0
      subst hr
      subst hcc
      clear hr0
      go_enter Try.func42, Try.ntmps42
      go_wp2_with (go_at_call 72; ((with_reducible refine (C.out _).mono ?_); rintro e w1 ⟨rfl, b1⟩; have HB1 := Lib.hid b1; have z1 := (b1.cell (p := ⟨b, off + 1, none⟩) hb).trans q1'; clear b1))
      go_quiet (fail)
      go_wp2_with fail
      go_ret3
      exact ⟨fun s r h => (by rw [HV.out] at h; cases h; exact ⟨_, _, rfl, Nat.le_refl _, fun h => absurd h (by simp), below_drewN HB1.out _⟩), fun h => (by rw [HV.out] at h; cases h)⟩
     ·go_enter Try.func42, Try.ntmps42
      go_wp2_with (go_at_call 72; ((with_reducible refine (C.out _).mono ?_); rintro e w1 ⟨rfl, b1⟩; have HB1 := Lib.hid b1; have HT1 := Lib.hid (HT.out.next b1); have z1 := (b1.cell (p := ⟨b, off + 1, none⟩) hb).trans q1'; clear b1))
      go_quiet (fail)
      go_wp2_with fail
      go_ret3
      exact ⟨fun s r h => (by rw [HV.out] at h; cases h; exact ⟨_, _, rfl, (by omega), HT1.out, below_drewN HB1.out _⟩), fun h => (by rw [HV.out] at h; cases h)⟩
end Go.Proofs.Ytaofkaehhikfaaa
namespace Go.Proofs.Ytaofkaehhikfaaa
open Go.RowKit
namespace Vl
def MapS (w : World) (M : Nat) (l : List (ByteArray × Value)) : Prop :=
 ∃ es clock, w.heap[M]? = some (.map es clock) /\ es.toList.map (fun e => (e.key, e.val)) = l.map fun p => (Value.string p.1, p.2)
section
variable {P : Program} {w w1 : World} {M : Nat} {l : List (ByteArray × Value)}
theorem MapS.made (w : World) : MapS (w.alloc (.map #[] 0)) w.heap.size [] := ⟨#[], 0, (MapKept.heap_alloc w _).1, rfl⟩
theorem MapS.lt (h : MapS w M l) : M < w.heap.size := by
 obtain ⟨es, clock, hb, _⟩ := h
 exact (Array.getElem?_eq_some_iff.1 hb).1
theorem MapS.below {B : Nat} (h : MapS w M l) (hM : M < B) (hb : Below B w w1) : MapS w1 M l := by
 obtain ⟨es, clock, h1, h2⟩ := h
 exact ⟨es, clock, (hb.block M hM).trans h1, h2⟩
theorem MapS.next (h : MapS w M l) (hb : Below w.heap.size w w1) : MapS w1 M l := h.below h.lt hb
theorem findNow_str (s : ByteArray) : ∀ (es : List MapEntry) (l : List (ByteArray × Value)) (i : Nat), es.map (fun e => (e.key, e.val)) = l.map (fun p => (Value.string p.1, p.2)) ->
 ∃ j, Instr.findNow .string (.string s) es i = some ((look l s).map fun v => (j, v))
 | [], [], i, _ => ⟨i, rfl⟩
 | [], p :: l, i, h => by cases h
 | e :: es, [], i, h => by cases h
 | e :: es, p :: l, i, h => by
   simp only [List.map_cons, List.cons.injEq, Prod.mk.injEq] at h
   obtain ⟨⟨h1, h2⟩, h3⟩ := h
   rw [Instr.findNow, h1]
   by_cases hp : p.1 = s
   ·refine ⟨i, ?_⟩
    have hs : (s == p.1) = true := (MapKept.bytes_beq s p.1).2 hp.symm
    simp only [Instr.sameNow, hs]
    rw [look, if_pos hp, h2]; rfl
   ·have hs : (s == p.1) = false := by
     cases hc : (s == p.1) with
     | false => rfl
     | true => exact absurd ((MapKept.bytes_beq s p.1).1 hc).symm hp
    obtain ⟨j, hj⟩ := findNow_str s es l (i + 1) h3
    refine ⟨j, ?_⟩
    simp only [Instr.sameNow, hs]
    rw [look, if_neg hp]; exact hj
theorem findKey_str {k : TypeId} (hk : P.underlying k = some .string) (w : World) (s : ByteArray) {es : List MapEntry} (h : es.map (fun e => (e.key, e.val)) = l.map (fun p => (Value.string p.1, p.2))) :
 ∃ j, (Instr.findKey k (.string s) es).run P w = .ok ((look l s).map fun v => (j, v)) w := by
 obtain ⟨j, hj⟩ := findNow_str s es l 0 h
 refine ⟨j, ?_⟩
 exact MapKept.run_findKey hk hj
theorem checkKey_str {k : TypeId} (hk : P.underlying k = some .string) (w : World) (em : Bool) (s : ByteArray) : (Instr.checkKey em 10000 k (.string s)).run P w = .ok () w := by
 exact MapKept.run_checkKey hk (by simp [MapKept.IsKey]) em 9999
theorem MapS.lookup {t k e : TypeId} (h : MapS w M l) (ht : P.underlying t = some (.map k e)) (hk : P.underlying k = some .string) {z : Value} (hz : (zeroValue e).run P w = .ok z w) (s : ByteArray) :
 (Instr.lookup t (.map (some M)) (.string s) true).run P w = .ok (match look l s with | some v => .tuple #[v, .bool true] | none => .tuple #[z, .bool false]) w := by
 obtain ⟨es, clock, hb, he⟩ := h
 obtain ⟨j, hj⟩ := findKey_str hk w s he
 cases hl : look l s with
 | none =>
   rw [hl] at hj
   simp [Instr.lookup, run_underlying ht, MapKept.run_getObj_map hb, checkKey_str hk, hj, hz, Result.andThen]
 | some v =>
   rw [hl] at hj
   simp [Instr.lookup, run_underlying ht, MapKept.run_getObj_map hb, checkKey_str hk, hj, Result.andThen]
theorem wpList_lookS {ops : Array Oper} {rest : List Oper} {o : Oper} {a : Act} {Q : Exit -> Act -> World -> Prop} (hg : o.guard = none) (m x : Operand) (t : TypeId) (hop : o.op = Op.lookup t m x true)
 (k e : TypeId) (ht : P.underlying t = some (.map k e)) (hk : P.underlying k = some .string) (z : Value) (hz : (zeroValue e).run P w = .ok z w) (M : Nat) (l : List (ByteArray × Value)) (hm : a.eval m = .map (some M)) (h : MapS w M l) (s : ByteArray) (hx : a.eval x = .string s)
 (v : Value) (b : Bool) (hv : look l s = if b = true then some v else none) (hv0 : b = false -> v = z)
 (hK : wpList P ops Q rest (a.put o.dst (.tuple #[v, .bool b])) w) : wpList P ops Q (o :: rest) a w := by
 refine wpList_plain hg fun K' hK' => ?_
 have hrun := h.lookup ht hk hz s
 have hr : (match look l s with | some v => Value.tuple #[v, .bool true] | none => Value.tuple #[z, .bool false]) = .tuple #[v, .bool b] := by
  rw [hv]
  cases b with
  | true => rfl
  | false => rw [hv0 rfl]; rfl
 rw [hr] at hrun
 unfold Oper.wp
 simp [execOp, hop, hm, hx, hrun, Result.andThen]
 exact hK' _ _ hK
theorem MapS.insert {t k e : TypeId} (h : MapS w M l) (ht : P.underlying t = some (.map k e)) (hk : P.underlying k = some .string) (s : ByteArray) (v : Value) (hn : look l s = none) :
 ∃ w', (Instr.mapUpdate t (.map (some M)) (.string s) v).run P w = .ok () w' /\ MapS w' M (l ++ [(s, v)]) /\ ∀ B a, B <= M -> Below B a w -> Below B a w' := by
 obtain ⟨es, clock, hb, he⟩ := h
 obtain ⟨j, hj⟩ := findKey_str hk w s he
 rw [hn] at hj
 refine ⟨ChangeMaps.setBlock w M (.map (es.push ⟨.string s, v, clock⟩) (clock + 1)), ?_, ⟨_, _, ChangeMaps.heap_setBlock_same hb _, ?_⟩, ?_⟩
 ·simp [Instr.mapUpdate, run_underlying ht, MapKept.run_getObj_map hb, checkKey_str hk, hj, MapKept.run_setObj_map _ hb, Result.andThen, ChangeMaps.setBlock]
 ·rw [Array.toList_push, List.map_append, he, List.map_append]; rfl
 ·intro B a hB hb'
  exact hb'.trans ⟨rfl, rfl, rfl, by simp [ChangeMaps.setBlock], fun i hi => ChangeMaps.heap_setBlock_other hb _ (by omega)⟩
theorem wpList_insS {ops : Array Oper} {rest : List Oper} {o : Oper} {a : Act} {Q : Exit -> Act -> World -> Prop} (hg : o.guard = none) (hd : o.dst = none) (m x v : Operand) (t : TypeId) (hop : o.op = Op.insert t m x v)
 (k e : TypeId) (ht : P.underlying t = some (.map k e)) (hk : P.underlying k = some .string) (M : Nat) (l : List (ByteArray × Value)) (hm : a.eval m = .map (some M)) (h : MapS w M l) (s : ByteArray) (hx : a.eval x = .string s) (y : Value) (hy : a.eval v = y)
 (hn : look l s = none) (hK : ∀ w', MapS w' M (l ++ [(s, y)]) -> (∀ B b, B <= M -> Below B b w -> Below B b w') -> wpList P ops Q rest a w') : wpList P ops Q (o :: rest) a w := by
 refine wpList_plain hg fun K' hK' => ?_
 obtain ⟨w', hrun, h1, h2⟩ := h.insert ht hk s y hn
 unfold Oper.wp
 simp [execOp, hop, hm, hx, hy, hrun, Result.andThen, Oper.upon, hd]
 exact hK' _ _ (hK w' h1 h2)
end
end Vl
end Go.Proofs.Ytaofkaehhikfaaa
namespace Go.Proofs.Ytaofkaehhikfaaa
open Go.RowKit Vl
def OnIs (o : Option ByteArray) (w : World) (e : Ending) (w' : World) : Prop := ∃ (s : ByteArray) (b : Bool), e = .returned (.tuple #[.string s, .bool b]) /\ Below w.heap.size w w' /\ (b = false -> s = ⟨#[]⟩) /\ o = if b = true then some s else none
def onT : Option (ByteArray × List Tk.Tok) -> Option ByteArray
 | some (s, []) => some s
 | _ => none
theorem only_ld (l : List Tk.Tok) : only l = onT (ldT l) := by
 match l with
 | [] => rfl
 | [x] =>
   show (if nam x = true then some x.2.1 else none) = onT (if nam x = true then some (x.2.1, []) else none)
   by_cases h : nam x = true
   ·rw [if_pos h, if_pos h]; rfl
   ·rw [if_neg h, if_neg h]; rfl
 | x :: y :: r =>
   show none = onT (if nam x = true then some (x.2.1, y :: r) else none)
   by_cases h : nam x = true
   ·rw [if_pos h]; rfl
   ·rw [if_neg h]; rfl
theorem ldT_len {l r : List Tk.Tok} {s : ByteArray} (h : ldT l = some (s, r)) : r.length + 1 = l.length /\ (∀ x ∈ r, x ∈ l) := by
 match l with
 | [] => cases h
 | x :: q =>
   have h' : (if nam x = true then some (x.2.1, q) else none) = some (s, r) := h
   split at h'
   ·cases h'
    exact ⟨rfl, fun y hy => List.mem_cons_of_mem _ hy⟩
   ·cases h'
theorem conly_any (l : List Tk.Tok) (hm : l.length <= 1000) (hs : ∀ x ∈ l, x.2.1.size <= 90000) (A : Option Addr) (cap : Nat) (hcap : l.length <= cap) (w : World) (h : Ts w w.heap.size A l) :
 Calls Try.prog 53 #[.slice A l.length cap] w (OnIs (only l) w) := by
 have C := cleading_any l hm hs A cap hcap w h
 have HV := Lib.hid (only_ld l)
 generalize only l = res at *
 cases hl : ldT l with
 | none =>
   have C2 : Hid (Calls Try.prog 42 #[.slice A l.length cap] w (LdNo w)) := Lib.hid (C.mono fun e w' h => h.2 hl)
   rw [hl] at HV
   clear C hl h hs
   go_enter Try.func53, Try.ntmps53
   go_wp2_with (go_at_call 42; ((with_reducible refine (C2.out).mono ?_); rintro e w1 ⟨rfl, b1⟩; have HB1 := Lib.hid b1; clear b1))
   go_ret2
   exact ⟨⟨#[]⟩, false, rfl, HB1.out, fun _ => rfl, HV.out⟩
 | some p =>
   obtain ⟨s, r⟩ := p
   have C2 : Hid (Calls Try.prog 42 #[.slice A l.length cap] w (LdYes s r w)) := Lib.hid (C.mono fun e w' h => h.1 s r hl)
   rw [hl] at HV
   have hrl := (ldT_len hl).1
   clear C hl h hs
   cases r with
   | nil =>
     go_enter Try.func53, Try.ntmps53
     go_wp2_with (go_at_call 42; ((with_reducible refine (C2.out).mono ?_); rintro e w1 ⟨A1, c1, rfl, hc1, T1, b1⟩; have HB1 := Lib.hid b1; clear b1 T1))
     go_ret2
     exact ⟨s, true, rfl, HB1.out, fun h => (by cases h), HV.out⟩
   | cons x r =>
     have hpos : (0 : Int) < ((x :: r).length : Int) := by simp
     go_enter Try.func53, Try.ntmps53
     go_wp2_with (go_at_call 42; ((with_reducible refine (C2.out).mono ?_); rintro e w1 ⟨A1, c1, rfl, hc1, T1, b1⟩; have HB1 := Lib.hid b1; clear b1 T1))
     go_ret2
     exact ⟨⟨#[]⟩, false, rfl, HB1.out, fun _ => rfl, HV.out⟩
def numT (ws : List (ByteArray × Int)) : List (ByteArray × Value) := ws.map fun p => (p.1, .int .i64 p.2)
theorem look_numT (ws : List (ByteArray × Int)) (s : ByteArray) : Vl.look (numT ws) s = (Vl.look ws s).map (Value.int .i64) := by
 induction ws with
 | nil => rfl
 | cons p r ih =>
   show (if p.1 = s then some (Value.int .i64 p.2) else Vl.look (numT r) s) = (if p.1 = s then some p.2 else Vl.look r s).map (Value.int .i64)
   by_cases h : p.1 = s
   ·rw [if_pos h, if_pos h]; rfl
   ·rw [if_neg h, if_neg h, ih]
theorem zero_int (w : World) : (zeroValue 3).run Try.prog w = .ok (.int .i64 0) w := by kernel_rfl
def LaIs (o : Option Int) (w : World) (e : Ending) (w' : World) : Prop := ∃ (n : Int) (b : Bool), e = .returned (.tuple #[.int .i64 n, .bool b]) /\ Below w.heap.size w w' /\ (b = false -> n = 0) /\ o = if b = true then some n else none
theorem clast_any (r : List Tk.Tok) (ws : List (ByteArray × Int)) (u : Int) (hm : r.length <= 1000) (hs : ∀ x ∈ r, x.2.1.size <= 90000) (A : Option Addr) (cap M : Nat) (w : World) (h : Ts w w.heap.size A r) (hM : MapS w M (numT ws)) :
 Calls Try.prog 83 #[.slice A r.length cap, .map (some M), .int .i64 u] w (LaIs (lst r ws u) w) := by
 by_cases h0 : r = []
 ·have HV : Hid (lst r ws u = some u) := Lib.hid (if_pos h0)
  have e0 : ((r.length : Int) == 0) = true := by rw [h0]; rfl
  clear h h0 hs hM
  go_enter Try.func83, Try.ntmps83
  go_wp2_with fail
  go_ret2
  exact ⟨u, true, rfl, Below.refl _ _, fun h => (by cases h), HV.out⟩
 ·have HV : Hid (lst r ws u = Vl.look ws (wrd r)) := Lib.hid (if_neg h0)
  have e0 : ((r.length : Int) == 0) = false := beq_false_of_ne (fun c => h0 (List.eq_nil_of_length_eq_zero (by omega)))
  have C : Hid (Calls Try.prog 35 #[.slice A r.length cap] w (Sg (wrd r) w)) := Lib.hid (cword_any r hm hs A cap w h)
  have HM := Lib.hid hM
  have HL := Lib.hid (look_numT ws (wrd r))
  clear h h0 hs hM
  generalize wrd r = s at *
  cases hl : Vl.look ws s with
  | none =>
    rw [hl] at HL HV
    clear hl
    go_enter Try.func83, Try.ntmps83
    go_wp2_with (first | (go_at_call 35; ((with_reducible refine (C.out).mono ?_); rintro e w1 ⟨rfl, b1⟩; have HB1 := Lib.hid b1; have HM1 := Lib.hid (HM.out.next b1); clear b1)) | (at_lookup; refine wpList_lookS rfl _ _ 93 rfl 9 3 Try.underlying93 Try.underlying9 (.int .i64 0) (zero_int _) M _ rfl HM1.out s rfl (.int .i64 0) false HL.out (fun _ => rfl) ?_))
    go_ret2
    exact ⟨0, false, rfl, HB1.out, fun _ => rfl, HV.out⟩
  | some n =>
    rw [hl] at HL HV
    clear hl
    go_enter Try.func83, Try.ntmps83
    go_wp2_with (first | (go_at_call 35; ((with_reducible refine (C.out).mono ?_); rintro e w1 ⟨rfl, b1⟩; have HB1 := Lib.hid b1; have HM1 := Lib.hid (HM.out.next b1); clear b1)) | (at_lookup; refine wpList_lookS rfl _ _ 93 rfl 9 3 Try.underlying93 Try.underlying9 (.int .i64 0) (zero_int _) M _ rfl HM1.out s rfl (.int .i64 n) true HL.out (fun h => (by cases h)) ?_))
    go_ret2
    exact ⟨n, true, rfl, HB1.out, fun h => (by cases h), HV.out⟩
def MpIs (l : List (ByteArray × Value)) (w : World) (e : Ending) (w' : World) : Prop := ∃ M, e = .returned (.map (some M)) /\ MapS w' M l /\ Below w.heap.size w w' /\ w.heap.size <= M
theorem cstyles_any (w : World) : Calls Try.prog 57 #[] w (MpIs (numT styles) w) := by
 have hmm := @run_makeMap Try.prog
 have HM := Lib.hid (MapS.made w)
 have HB : Hid (Below w.heap.size w (w.alloc (.map #[] 0))) := Lib.hid ((Below.refl _ _).alloc (Nat.le_refl _) _)
 go_enter Try.func57, Try.ntmps57
 go_wp2_with (refine wpList_insS rfl rfl _ _ _ _ rfl 9 3 Try.underlying93 Try.underlying9 w.heap.size _ rfl HM.out _ rfl _ rfl (by rfl) ?_; intro w' h1 h2; have HM := Lib.hid h1; have HB := Lib.hid (h2 _ _ (Nat.le_refl _) HB.out); clear h1 h2)
 go_ret
 exact ⟨_, rfl, HM.out, HB.out, Nat.le_refl _⟩
theorem cwhich_any (w : World) : Calls Try.prog 85 #[] w (MpIs (numT whichs) w) := by
 have hmm := @run_makeMap Try.prog
 have HM := Lib.hid (MapS.made w)
 have HB : Hid (Below w.heap.size w (w.alloc (.map #[] 0))) := Lib.hid ((Below.refl _ _).alloc (Nat.le_refl _) _)
 go_enter Try.func85, Try.ntmps85
 go_wp2_with (refine wpList_insS rfl rfl _ _ _ _ rfl 9 3 Try.underlying93 Try.underlying9 w.heap.size _ rfl HM.out _ rfl _ rfl (by rfl) ?_; intro w' h1 h2; have HM := Lib.hid h1; have HB := Lib.hid (h2 _ _ (Nat.le_refl _) HB.out); clear h1 h2)
 go_ret
 exact ⟨_, rfl, HM.out, HB.out, Nat.le_refl _⟩
end Go.Proofs.Ytaofkaehhikfaaa
namespace Go.Proofs.Ytaofkaehhikfaaa
open Go.RowKit
namespace Ns
def okp (ts : List Tk.Tok) (fr tz : Int) : Prop := 0 <= fr /\ fr <= tz /\ tz <= ts.length
instance (ts : List Tk.Tok) (fr tz : Int) : Decidable (okp ts fr tz) := by unfold okp; infer_instance
def splR (ts : List Tk.Tok) (fr tz kd : Int) : List (Nat × Nat) := if okp ts fr tz then spl (isK ts kd) tz.toNat (plc (ends ts) tz.toNat fr.toNat) fr.toNat else []
end Ns
def SkipC : Prop := ∀ (es : List Int), Ns.Fit es -> Ns.Lead es -> ∀ (A : Option Addr) (cap : Nat) (a : Int), (-1152921504606846976 <= a /\ a <= 1152921504606846976) -> ∀ w, Bs w w.heap.size .i64 A es -> Calls Try.prog 55 #[.slice A es.length cap, .int .i64 a] w (Nu (Ns.skp es a) w)
def SplitC : Prop := ∀ (ts : List Tk.Tok), ts.length <= 20000 -> ∀ (A C : Option Addr) (ca cc : Nat), ts.length <= ca -> (Ns.ends ts).length <= cc -> ∀ (fr tz kd : Int), I64 fr -> I64 tz -> ∀ w, Ts w w.heap.size A ts -> Bs w w.heap.size .i64 C (Ns.ends ts) ->
 Calls Try.prog 45 #[.slice A ts.length ca, .slice C (Ns.ends ts).length cc, .int .i64 fr, .int .i64 tz, .int .i64 kd] w (ToldP (Ns.splR ts fr tz kd) w)
theorem nwithin_any (ts : List Tk.Tok) (A : Option Addr) (ca : Nat) (fr tz : Int) (w : World) :
 Calls Try.prog 73 #[.slice A ts.length ca, .int .i64 fr, .int .i64 tz] w fun e w' => e = .returned (.bool (decide (Ns.okp ts fr tz))) /\ w = w' := by
 by_cases h1 : 0 <= fr
 ·have d1 : decide (0 <= fr) = true := decide_eq_true h1
  by_cases h2 : fr <= tz
  ·have d2 : decide (fr <= tz) = true := decide_eq_true h2
   by_cases h3 : tz <= (ts.length : Int)
   ·have d3 : decide (tz <= (ts.length : Int)) = true := decide_eq_true h3
    have HV : Hid (decide (Ns.okp ts fr tz) = true) := Lib.hid (decide_eq_true ⟨h1, h2, h3⟩)
    go_enter Try.func73, Try.ntmps73
    go_wp2_with fail
    go_ret
    exact ⟨by rw [HV.out]; rfl, rfl⟩
   ·have d3 : decide (tz <= (ts.length : Int)) = false := decide_eq_false h3
    have HV : Hid (decide (Ns.okp ts fr tz) = false) := Lib.hid (decide_eq_false fun c => h3 c.2.2)
    go_enter Try.func73, Try.ntmps73
    go_wp2_with fail
    go_ret
    exact ⟨by rw [HV.out]; rfl, rfl⟩
  ·have d2 : decide (fr <= tz) = false := decide_eq_false h2
   have HV : Hid (decide (Ns.okp ts fr tz) = false) := Lib.hid (decide_eq_false fun c => h2 c.2.1)
   go_enter Try.func73, Try.ntmps73
   go_wp2_with fail
   go_ret
   exact ⟨by rw [HV.out]; rfl, rfl⟩
 ·have d1 : decide (0 <= fr) = false := decide_eq_false h1
  have HV : Hid (decide (Ns.okp ts fr tz) = false) := Lib.hid (decide_eq_false fun c => h1 c.1)
  go_enter Try.func73, Try.ntmps73
  go_wp2_with fail
  go_ret
  exact ⟨by rw [HV.out]; rfl, rfl⟩
theorem nleads_any (es : List Int) (hm : es.length <= 65536) (hL : Ns.Lead es) (C : Option Addr) (cc : Nat) (a : Nat) (ha : a < es.length) (w : World) (h : Bs w w.heap.size .i64 C es) :
 Calls Try.prog 76 #[.slice C es.length cc, .int .i64 a] w fun e w' => e = .returned (.bool (!decide (Ru.g es a = -1))) /\ w = w' := by
 obtain ⟨b, off, rfl, hb, hp⟩ := h (by omega)
 have p0 := hp a ha
 rcases hL a ha with h1 | h1 | ⟨h1, h2, h3⟩
 ·have HV : Hid ((!decide (Ru.g es a = -1)) = false) := Lib.hid (by rw [h1]; rfl)
  rw [h1] at p0
  clear hp hL h h1
  go_enter Try.func76, Try.ntmps76
  go_wp2_with fail
  go_ret
  exact ⟨by rw [HV.out]; rfl, rfl⟩
 ·have HV : Hid ((!decide (Ru.g es a = -1)) = true) := Lib.hid (by rw [decide_eq_false (by omega)]; rfl)
  rw [h1] at p0
  clear hp hL h h1
  go_enter Try.func76, Try.ntmps76
  go_wp2_with fail
  go_ret
  exact ⟨by rw [HV.out]; rfl, rfl⟩
 ·have HV : Hid ((!decide (Ru.g es a = -1)) = true) := Lib.hid (by rw [decide_eq_false (by omega)]; rfl)
  obtain ⟨g, hg⟩ : ∃ g : Nat, Ru.g es a = g := ⟨(Ru.g es a).toNat, by omega⟩
  rw [hg] at p0 h1 h2 h3
  rw [Int.toNat_natCast] at h3
  have hgl : g < es.length := by omega
  have hag : a < g := by omega
  have p1 := hp g hgl
  rw [h3] at p1
  have hne : (g == es.length) = false := beq_false_of_ne (by omega)
  have hne2 : ((g : Int) == (es.length : Int)) = false := beq_false_of_ne (by omega)
  clear hp hL h h1 h2 h3 hg
  go_enter Try.func76, Try.ntmps76
  go_wp2_with fail
  go_ret
  exact ⟨by rw [HV.out]; rfl, rfl⟩
theorem skipC : SkipC := by
 intro es hF hL A cap a ha w h
 have hm := hF.1
 by_cases h0 : a < 0
 ·have d0 : decide (a < 0) = true := decide_eq_true h0
  have HV : Hid (Ns.skp es a = a + 1) := Lib.hid (Ns.skp_no fun c => by omega)
  clear h hF hL
  go_enter Try.func55, Try.ntmps55
  go_wp2_with fail
  go_ret
  exact ⟨by rw [HV.out]; rfl, Below.refl _ _⟩
 ·have d0 : decide (a < 0) = false := decide_eq_false h0
  obtain ⟨n, rfl⟩ : ∃ n : Nat, a = n := ⟨a.toNat, by omega⟩
  by_cases h1 : (es.length : Int) <= (n : Int)
  ·have d1 : decide ((es.length : Int) <= (n : Int)) = true := decide_eq_true h1
   have d2 : decide (es.length <= n) = true := decide_eq_true (by omega)
   have HV : Hid (Ns.skp es n = n + 1) := Lib.hid (Ns.skp_no fun c => by omega)
   clear h hF hL
   go_enter Try.func55, Try.ntmps55
   go_wp2_with fail
   go_ret
   exact ⟨by rw [HV.out]; rfl, Below.refl _ _⟩
  ·have d1 : decide ((es.length : Int) <= (n : Int)) = false := decide_eq_false h1
   have hlt : n < es.length := by omega
   have d2 : decide (es.length <= n) = false := decide_eq_false (by omega)
   have CL := Lib.hid (nleads_any es hm hL A cap n hlt w h)
   have hb2 := hF.2 n hlt
   by_cases h2 : Ru.g es n = -1
   ·have HV : Hid (Ns.skp es n = n + 1) := Lib.hid (Ns.skp_no fun c => by rw [Int.toNat_natCast] at c; omega)
    rw [decide_eq_true h2] at CL
    clear h hF hL h2 hb2
    go_enter Try.func55, Try.ntmps55
    go_wp2_with (go_at_call 76; ((with_reducible refine (CL.out).mono ?_); rintro e w1 ⟨rfl, rfl⟩))
    go_ret
    exact ⟨by rw [HV.out]; rfl, Below.refl _ _⟩
   ·have hge : (n : Int) <= Ru.g es n := by rcases hL n hlt with c | c | c <;> omega
    have HV : Hid (Ns.skp es n = min (Ru.g es n + 1) es.length) := Lib.hid (by rw [Ns.skp_yes (by omega) (by omega) (by rw [Int.toNat_natCast]; exact hge), Int.toNat_natCast])
    rw [decide_eq_false h2] at CL
    obtain ⟨b, off, rfl, hb, hp⟩ := h (by omega)
    have p0 := hp n hlt
    clear h hF hL h2 hp hge
    generalize Ru.g es n = x at *
    go_enter Try.func55, Try.ntmps55
    go_wp2_with (go_at_call 76; ((with_reducible refine (CL.out).mono ?_); rintro e w1 ⟨rfl, rfl⟩))
    go_ret
    exact ⟨by rw [HV.out]; rfl, Below.refl _ _⟩
theorem fits_any (ts : List Tk.Tok) (hm : ts.length <= 20000) (A C : Option Addr) (ca cc : Nat) (a : Nat) (ha : a < ts.length) (w : World) (h : Ts w w.heap.size A ts) (h2 : Bs w w.heap.size .i64 C (Ns.ends ts)) :
 Calls Try.prog 90 #[.slice A ts.length ca, .slice C (Ns.ends ts).length cc, .int .i64 a] w (Bo true w) := by
 have hel := Ns.ends_len ts
 have hae : a < (Ns.ends ts).length := by omega
 have CL : Hid (∀ W, Below w.heap.size w W -> Calls Try.prog 76 #[.slice C (Ns.ends ts).length cc, .int .i64 a] W fun e w' => e = .returned (.bool (!decide (Ru.g (Ns.ends ts) a = -1))) /\ W = w') :=
  Lib.hid fun W hb => nleads_any (Ns.ends ts) (by omega) (Ns.ends_lead ts) C cc a hae W (h2.next hb)
 have CC : Hid (∀ W, Calls Try.prog 81 #[.agg #[.int .i64 (Tk.tk ts a).1, .string (Tk.tk ts a).2.1, .int .i64 (Tk.tk ts a).2.2]] W (Sg (Ns.clo (Tk.tk ts a)) W)) := Lib.hid fun W => closing_any _ _ _ W
 obtain ⟨b, off, rfl, hb, hp⟩ := h2 (by omega)
 obtain ⟨bb, of2, rfl, hbb, hp2⟩ := h (by omega)
 have p0 := hp a hae
 obtain ⟨q0, q1, q2⟩ := hp2 a ha
 clear h h2
 by_cases hO : Ns.isO (Tk.tk ts a)
 ·have he := Ns.empty_f hO
  rcases Ns.ends_pair ha hO with hx | ⟨j, h1, h2, h3, h4, h5, h6⟩
  ·rw [hx] at p0 CL
   rw [show (!decide ((ts.length : Int) = -1)) = true by rw [decide_eq_false (by omega)]; rfl] at CL
   have HEL := Lib.hid hel
   clear hp hp2 hO hx hel
   generalize Ns.clo (Tk.tk ts a) = cl at *
   generalize Tk.tk ts a = u at *
   go_enter Try.func90, Try.ntmps90
   go_wp2_with (go_at_call 81; ((with_reducible refine (CC.out _).mono ?_); rintro e w1 ⟨rfl, b1⟩; have HB1 := Lib.hid b1; have r0 := (b1.cell (p := ⟨b, off + a, none⟩) hb).trans p0; clear b1))
   go_quiet ((go_at_call 76; exact Calls.quiet_of_same ((CL.out _ (below_drewN HB1.out _)).mono fun _ _ h => ⟨h.1, h.2.symm⟩)))
   go_wp2_with fail
   go_ret
   exact ⟨rfl, below_drewN HB1.out _⟩
  ·obtain ⟨s0, s1, s2⟩ := hp2 j h2
   have HV : Hid (decide (Ns.shuts (Tk.tk ts j) (Tk.tk ts a)) = true) := Lib.hid (decide_eq_true ⟨h4, h5⟩)
   have CT : Hid (∀ W, Calls Try.prog 82 #[.agg #[.int .i64 (Tk.tk ts j).1, .string (Tk.tk ts j).2.1, .int .i64 (Tk.tk ts j).2.2], .agg #[.int .i64 (Tk.tk ts a).1, .string (Tk.tk ts a).2.1, .int .i64 (Tk.tk ts a).2.2]] W (Bo true W)) := Lib.hid fun W => by
    have := ncloses_any (Tk.tk ts j).1 (Tk.tk ts j).2.1 (Tk.tk ts j).2.2 (Tk.tk ts a).1 (Tk.tk ts a).2.1 (Tk.tk ts a).2.2 W
    rw [show decide (Ns.shuts ((Tk.tk ts j).1, (Tk.tk ts j).2.1, (Tk.tk ts j).2.2) ((Tk.tk ts a).1, (Tk.tk ts a).2.1, (Tk.tk ts a).2.2)) = true from HV.out] at this
    exact this
   rw [h3] at p0 CL
   rw [show (!decide ((j : Int) = -1)) = true by rw [decide_eq_false (by omega)]; rfl] at CL
   have hne : (j == ts.length) = false := beq_false_of_ne (by omega)
   have hne2 : ((j : Int) == (ts.length : Int)) = false := beq_false_of_ne (by omega)
   have hj2 : (j : Int) < (ts.length : Int) := by omega
   have ha2 : (a : Int) < (ts.length : Int) := by omega
   have ha3 : (a : Int) < ((Ns.ends ts).length : Int) := by omega
   clear hp hp2 hO h3 h4 h5 h6 hel HV
   generalize Ns.clo (Tk.tk ts a) = cl at *
   generalize Tk.tk ts a = u at *
   generalize Tk.tk ts j = v at *
   generalize Ns.ends ts = es at *
   go_enter Try.func90, Try.ntmps90
   go_wp2_with (go_at_call 81; ((with_reducible refine (CC.out _).mono ?_); rintro e w1 ⟨rfl, b1⟩; have HB1 := Lib.hid b1; have r0 := (b1.cell (p := ⟨b, off + a, none⟩) hb).trans p0; have u0 := (b1.cell (p := ⟨bb, of2 + a * 3, none⟩) hbb).trans q0; have u1 := (b1.cell (p := ⟨bb, of2 + a * 3 + 1, none⟩) hbb).trans q1; have u2 := (b1.cell (p := ⟨bb, of2 + a * 3 + 2, none⟩) hbb).trans q2; have v0 := (b1.cell (p := ⟨bb, of2 + j * 3, none⟩) hbb).trans s0; have v1 := (b1.cell (p := ⟨bb, of2 + j * 3 + 1, none⟩) hbb).trans s1; have v2 := (b1.cell (p := ⟨bb, of2 + j * 3 + 2, none⟩) hbb).trans s2; clear b1))
   clear p0 q0 q1 q2 s0 s1 s2
   have hb1' := Nat.lt_of_lt_of_le hb HB1.out.size
   have hbb1 := Nat.lt_of_lt_of_le hbb HB1.out.size
   go_region_held3 (fun w' => w'.cell? ⟨b, off + a, none⟩ = some (.int .i64 j) /\ w'.cell? ⟨bb, of2 + a * 3, none⟩ = some (.int .i64 u.1) /\ w'.cell? ⟨bb, of2 + a * 3 + 1, none⟩ = some (.string u.2.1) /\ w'.cell? ⟨bb, of2 + a * 3 + 2, none⟩ = some (.int .i64 u.2.2) /\ w'.cell? ⟨bb, of2 + j * 3, none⟩ = some (.int .i64 v.1) /\ w'.cell? ⟨bb, of2 + j * 3 + 1, none⟩ = some (.string v.2.1) /\ w'.cell? ⟨bb, of2 + j * 3 + 2, none⟩ = some (.int .i64 v.2.2))
    (first | go_keep | (go_split_ands; exact ⟨(hb1.cell (p := ⟨b, off + a, none⟩) hb1').trans (by assumption), (hb1.cell (p := ⟨bb, of2 + a * 3, none⟩) hbb1).trans (by assumption), (hb1.cell (p := ⟨bb, of2 + a * 3 + 1, none⟩) hbb1).trans (by assumption), (hb1.cell (p := ⟨bb, of2 + a * 3 + 2, none⟩) hbb1).trans (by assumption), (hb1.cell (p := ⟨bb, of2 + j * 3, none⟩) hbb1).trans (by assumption), (hb1.cell (p := ⟨bb, of2 + j * 3 + 1, none⟩) hbb1).trans (by assumption), (hb1.cell (p := ⟨bb, of2 + j * 3 + 2, none⟩) hbb1).trans (by assumption)⟩))
    (first | (go_at_call 76; refine (CL.out _ HB1.out.drew).mono ?_; rintro e w2 ⟨rfl, rfl⟩) | (go_at_call 82; refine (CT.out _).mono ?_; rintro e w2 ⟨rfl, hb1⟩))
   have HB2 := Lib.hid (below_next HB1.out ((Below.refl _ _).drew.trans hb1))
   clear hb1 r0 u0 u1 u2 v0 v1 v2
   go_wp2_with fail
   go_ret
   exact ⟨rfl, HB2.out⟩
 ·have hcn := Ns.clo_none hO
  have hx : Ru.g (Ns.ends ts) a = -1 := Ns.ends_none ha hO
  rw [hx] at p0
  rw [hcn] at CC
  clear hp hp2 hO hcn hx CL
  generalize Tk.tk ts a = u at *
  go_enter Try.func90, Try.ntmps90
  go_wp2_with (go_at_call 81; ((with_reducible refine (CC.out _).mono ?_); rintro e w1 ⟨rfl, b1⟩; have HB1 := Lib.hid b1; have r0 := (b1.cell (p := ⟨b, off + a, none⟩) hb).trans p0; clear b1))
  go_ret
  exact ⟨rfl, HB1.out⟩
theorem cell_kept {w W : World} {bk : Nat} {v : Value} (hb : Below w.heap.size w W) (hl : bk < w.heap.size) (h : w.cell? ⟨bk, 0, none⟩ = some v) : W.cell? ⟨bk, 0, none⟩ = some v := (hb.cell (p := ⟨bk, 0, none⟩) hl).trans h
def FindJ (ts : List Tk.Tok) (S C : Value) (fr tz : Nat) (kd : Int) (is : Value) (w : World) (a' : Act) (wr : World) : Prop :=
 ∃ (x : Nat) (u5 u6 u7 u8 u9 u10 u11 u13 u14 u15 u16 u17 u18 u19 u20 u21 u22 u23 u24 u25 u26 u27 u28 u29 u30 u31 : Value), a' = { tmps := #[S, C, .int .i64 fr, .int .i64 tz, is, u5, u6, u7, u8, u9, u10, u11, .int .i64 x, u13, u14, u15, u16, u17, u18, u19, u20, u21, u22, u23, u24, u25, u26, u27, u28, u29, u30, u31], defers := [] } /\ x <= ts.length /\ Hid (Ns.fnd (Ns.isK ts kd) (Ns.plc (Ns.ends ts) tz fr) = Ns.fnd (Ns.isK ts kd) (Ns.plc (Ns.ends ts) tz x)) /\ Hid (Below w.heap.size w wr)
def atOf (a : Act) : Nat := (RowKit.intOf (a.tmps.getD 12 undef)).toNat
def Fd (n : Int) (w : World) (e : Ending) (w' : World) : Prop := e = .returned (.tuple #[.int .i64 n, .bool true]) /\ Below w.heap.size w w'
theorem isP_any (u : Tk.Tok) (bk : Nat) (kd : Int) (w : World) (hl : bk < w.heap.size) (h : w.cell? ⟨bk, 0, none⟩ = some (.int .i64 kd)) :
 Calls Try.prog 75 #[.agg #[.int .i64 u.1, .string u.2.1, .int .i64 u.2.2], .pointer (some ⟨bk, 0, none⟩)] w (Bo (decide (u.1 = kd)) w) := by
 obtain ⟨W0, hW⟩ : ∃ W0, W0 = w.alloc (.cells #[.int .i64 u.1, .string u.2.1, .int .i64 u.2.2] 36) := ⟨_, rfl⟩
 have hb0 : Below w.heap.size w W0 := by rw [hW]; exact (Below.refl _ _).alloc (Nat.le_refl _) _
 have k0 : W0.heap[w.heap.size]? = some (.cells #[.int .i64 u.1, .string u.2.1, .int .i64 u.2.2] 36 (0, 0)) := by rw [hW]; exact heap_alloc_new w _
 obtain ⟨p0, p1, p2⟩ := tok3_cells k0
 have q0 := cell_kept hb0 hl h
 have HB0 := Lib.hid hb0
 have HW := Lib.hid hW.symm
 clear hb0 k0 hW h
 by_cases hk : u.1 = kd
 ·have HV : Hid (decide (u.1 = kd) = true) := Lib.hid (decide_eq_true hk)
  rw [hk] at p0
  clear hk
  go_enter Try.func75, Try.ntmps75
  go_upto_region 1 with fail
  rw [HW.out]
  clear HW
  go_wp2_with fail
  go_ret
  exact ⟨by rw [HV.out]; rfl, HB0.out⟩
 ·have HV : Hid (decide (u.1 = kd) = false) := Lib.hid (decide_eq_false hk)
  have e : (u.1 == kd) = false := beq_false_of_ne hk
  clear hk
  go_enter Try.func75, Try.ntmps75
  go_upto_region 1 with fail
  rw [HW.out]
  clear HW
  go_wp2_with fail
  go_ret
  exact ⟨by rw [HV.out]; rfl, HB0.out⟩
theorem findP_any (ts : List Tk.Tok) (hm : ts.length <= 20000) (A C : Option Addr) (ca cc : Nat) (fr tz : Nat) (hfr : fr <= ts.length) (htz : tz <= ts.length) (kd : Int) (bk : Nat) (w : World) (hl : bk < w.heap.size) (hk : w.cell? ⟨bk, 0, none⟩ = some (.int .i64 kd)) (h : Ts w w.heap.size A ts) (h2 : Bs w w.heap.size .i64 C (Ns.ends ts)) :
 Calls Try.prog 74 #[.slice A ts.length ca, .slice C (Ns.ends ts).length cc, .int .i64 fr, .int .i64 tz, .func (Fn.func 75) #[] #[.pointer (some ⟨bk, 0, none⟩)]] w (Fd (Ns.fnd (Ns.isK ts kd) (Ns.plc (Ns.ends ts) tz fr)) w) := by
 have hel := Ns.ends_len ts
 have HF : Hid (∀ (x : Nat) (W : World), x < ts.length -> Below w.heap.size w W -> Calls Try.prog 90 #[.slice A ts.length ca, .slice C (Ns.ends ts).length cc, .int .i64 x] W (Bo true W)) := Lib.hid fun x W hx hb => fits_any ts hm A C ca cc x hx W (h.next hb) (h2.next hb)
 have HI : Hid (∀ (x : Nat) (W : World), Below w.heap.size w W -> Calls Try.prog 75 #[.agg #[.int .i64 (Tk.tk ts x).1, .string (Tk.tk ts x).2.1, .int .i64 (Tk.tk ts x).2.2], .pointer (some ⟨bk, 0, none⟩)] W (Bo (decide ((Tk.tk ts x).1 = kd)) W)) := Lib.hid fun x W hb => isP_any _ bk kd W (Nat.lt_of_lt_of_le hl hb.size) (cell_kept hb hl hk)
 have HK : Hid (∀ (x : Nat) (W : World), x < ts.length -> Below w.heap.size w W -> Calls Try.prog 55 #[.slice C (Ns.ends ts).length cc, .int .i64 x] W (Nu ((Ns.sk (Ns.ends ts) x : Nat) : Int) W)) := Lib.hid fun x W hx hb => by
  rw [Ns.sk_eq]; exact skipC _ (Ns.ends_fit (by omega)) (Ns.ends_lead ts) C cc x (by omega) W (h2.next hb)
 have H := Lib.hid h
 have HL : Hid (∀ x, x < ts.length -> Ns.sk (Ns.ends ts) x <= ts.length) := Lib.hid fun x hx => by
  have := Ns.sk_le (es := Ns.ends ts) (a := x) (by omega)
  omega
 clear h h2 hl hk hel
 go_enter Try.func74, Try.ntmps74
 go_wp2_with fail
 refine wp_scope_jumps 0 (fun a' wr => FindJ ts (.slice A ts.length ca) (.slice C (Ns.ends ts).length cc) fr tz kd (.func (Fn.func 75) #[] #[.pointer (some ⟨bk, 0, none⟩)]) w a' wr) (fun a' _ => tz - atOf a') rfl ?_ ?_
 ·go_wp2_with fail
  try go_step3
  have HN : Hid (Ns.fnd (Ns.isK ts kd) (Ns.plc (Ns.ends ts) tz fr) = Ns.fnd (Ns.isK ts kd) (Ns.plc (Ns.ends ts) tz fr)) := Lib.hid rfl
  have HB := Lib.hid (Below.refl w.heap.size w)
  by_cases hlt : fr < tz
  ·have hxl : fr < ts.length := by omega
   obtain ⟨bb, off, rfl, hbb, hp⟩ := H.out.next HB.out (by omega)
   obtain ⟨p0, p1, p2⟩ := hp fr hxl
   have CF := Lib.hid (HF.out fr _ hxl HB.out)
   have CI := Lib.hid (HI.out fr)
   have hsl := HL.out fr hxl
   have hgt := Ns.sk_gt (Ns.ends ts) fr
   have d1 : decide (tz <= fr) = false := decide_eq_false (by omega)
   clear hp HF HI HL
   by_cases hy : (Tk.tk ts fr).1 = kd
   ·have HV : Hid (Ns.fnd (Ns.isK ts kd) (Ns.plc (Ns.ends ts) tz fr) = fr) := Lib.hid (by rw [HN.out, Ns.plc_on hlt, Ns.fnd, if_pos (show Ns.isK ts kd fr = true from decide_eq_true hy)])
    rw [decide_eq_true hy] at CI
    clear hy HN HK hsl hgt
    generalize Tk.tk ts fr = u at *
    go_wp2_with (first | (go_at_call 90; ((with_reducible refine (CF.out).mono ?_); rintro e w1 ⟨rfl, b1⟩; have HB1 := Lib.hid (below_next HB.out b1); have r0 := (b1.cell (p := ⟨bb, off + fr * 3, none⟩) hbb).trans p0; have r1 := (b1.cell (p := ⟨bb, off + fr * 3 + 1, none⟩) hbb).trans p1; have r2 := (b1.cell (p := ⟨bb, off + fr * 3 + 2, none⟩) hbb).trans p2; clear b1)) | (go_at_call 75; ((with_reducible refine (CI.out _ HB1.out).mono ?_); rintro e w2 ⟨rfl, b2⟩; have HB2 := Lib.hid (below_next HB1.out b2); clear b2 r0 r1 r2)))
    simp only [Exit.jump]
    go_ret2
    exact ⟨by rw [HV.out]; rfl, HB2.out⟩
   ·have HV : Hid (Ns.fnd (Ns.isK ts kd) (Ns.plc (Ns.ends ts) tz fr) = Ns.fnd (Ns.isK ts kd) (Ns.plc (Ns.ends ts) tz (Ns.sk (Ns.ends ts) fr))) := Lib.hid (by rw [HN.out, Ns.plc_on hlt, Ns.fnd, if_neg (fun (c : Ns.isK ts kd fr = true) => hy (of_decide_eq_true c))])
    have CK := Lib.hid (fun W hb => HK.out fr W hxl hb)
    rw [decide_eq_false hy] at CI
    clear hy HN HK
    generalize Tk.tk ts fr = u at *
    go_wp2_with (first | (go_at_call 90; ((with_reducible refine (CF.out).mono ?_); rintro e w1 ⟨rfl, b1⟩; have HB1 := Lib.hid (below_next HB.out b1); have r0 := (b1.cell (p := ⟨bb, off + fr * 3, none⟩) hbb).trans p0; have r1 := (b1.cell (p := ⟨bb, off + fr * 3 + 1, none⟩) hbb).trans p1; have r2 := (b1.cell (p := ⟨bb, off + fr * 3 + 2, none⟩) hbb).trans p2; clear b1)) | (go_at_call 75; ((with_reducible refine (CI.out _ HB1.out).mono ?_); rintro e w2 ⟨rfl, b2⟩; have HB2 := Lib.hid (below_next HB1.out b2); clear b2 r0 r1 r2)) | (go_at_call 55; ((with_reducible refine (CK.out _ HB2.out).mono ?_); rintro e w3 ⟨rfl, b3⟩; have HB3 := Lib.hid (below_next HB2.out b3); clear b3)))
    go_step3
    exact ⟨rfl, ⟨_, _, _, _, _, _, _, _, _, _, _, _, _, _, _, _, _, _, _, _, _, _, _, _, _, _, _, rfl, hsl, HV, HB3⟩⟩
  ·have HV : Hid (Ns.fnd (Ns.isK ts kd) (Ns.plc (Ns.ends ts) tz fr) = -1) := Lib.hid (by rw [HN.out, Ns.plc_end hlt]; rfl)
   have d1 : decide (tz <= fr) = true := decide_eq_true (by omega)
   clear HF HI HL HN HK H
   go_wp2_with fail
   simp only [Exit.jump]
   go_ret2
   exact ⟨by rw [HV.out]; rfl, HB.out⟩
 ·rintro a' wr ⟨x, u5, u6, u7, u8, u9, u10, u11, u13, u14, u15, u16, u17, u18, u19, u20, u21, u22, u23, u24, u25, u26, u27, u28, u29, u30, u31, rfl, hx, HN, HB⟩
  by_cases hlt : x < tz
  ·have hxl : x < ts.length := by omega
   obtain ⟨bb, off, rfl, hbb, hp⟩ := H.out.next HB.out (by omega)
   obtain ⟨p0, p1, p2⟩ := hp x hxl
   have CF := Lib.hid (HF.out x _ hxl HB.out)
   have CI := Lib.hid (HI.out x)
   have hsl := HL.out x hxl
   have hgt := Ns.sk_gt (Ns.ends ts) x
   have d1 : decide (tz <= x) = false := decide_eq_false (by omega)
   clear hp HF HI HL
   by_cases hy : (Tk.tk ts x).1 = kd
   ·have HV : Hid (Ns.fnd (Ns.isK ts kd) (Ns.plc (Ns.ends ts) tz fr) = x) := Lib.hid (by rw [HN.out, Ns.plc_on hlt, Ns.fnd, if_pos (show Ns.isK ts kd x = true from decide_eq_true hy)])
    rw [decide_eq_true hy] at CI
    clear hy HN HK hsl hgt
    generalize Tk.tk ts x = u at *
    go_wp2_with (first | (go_at_call 90; ((with_reducible refine (CF.out).mono ?_); rintro e w1 ⟨rfl, b1⟩; have HB1 := Lib.hid (below_next HB.out b1); have r0 := (b1.cell (p := ⟨bb, off + x * 3, none⟩) hbb).trans p0; have r1 := (b1.cell (p := ⟨bb, off + x * 3 + 1, none⟩) hbb).trans p1; have r2 := (b1.cell (p := ⟨bb, off + x * 3 + 2, none⟩) hbb).trans p2; clear b1)) | (go_at_call 75; ((with_reducible refine (CI.out _ HB1.out).mono ?_); rintro e w2 ⟨rfl, b2⟩; have HB2 := Lib.hid (below_next HB1.out b2); clear b2 r0 r1 r2)))
    simp only [Exit.jump]
    go_ret2
    exact ⟨by rw [HV.out]; rfl, HB2.out⟩
   ·have HV : Hid (Ns.fnd (Ns.isK ts kd) (Ns.plc (Ns.ends ts) tz fr) = Ns.fnd (Ns.isK ts kd) (Ns.plc (Ns.ends ts) tz (Ns.sk (Ns.ends ts) x))) := Lib.hid (by rw [HN.out, Ns.plc_on hlt, Ns.fnd, if_neg (fun (c : Ns.isK ts kd x = true) => hy (of_decide_eq_true c))])
    have CK := Lib.hid (fun W hb => HK.out x W hxl hb)
    rw [decide_eq_false hy] at CI
    clear hy HN HK
    generalize Tk.tk ts x = u at *
    go_wp2_with (first | (go_at_call 90; ((with_reducible refine (CF.out).mono ?_); rintro e w1 ⟨rfl, b1⟩; have HB1 := Lib.hid (below_next HB.out b1); have r0 := (b1.cell (p := ⟨bb, off + x * 3, none⟩) hbb).trans p0; have r1 := (b1.cell (p := ⟨bb, off + x * 3 + 1, none⟩) hbb).trans p1; have r2 := (b1.cell (p := ⟨bb, off + x * 3 + 2, none⟩) hbb).trans p2; clear b1)) | (go_at_call 75; ((with_reducible refine (CI.out _ HB1.out).mono ?_); rintro e w2 ⟨rfl, b2⟩; have HB2 := Lib.hid (below_next HB1.out b2); clear b2 r0 r1 r2)) | (go_at_call 55; ((with_reducible refine (CK.out _ HB2.out).mono ?_); rintro e w3 ⟨rfl, b3⟩; have HB3 := Lib.hid (below_next HB2.out b3); clear b3)))
    go_step3
    exact ⟨rfl, ⟨_, _, _, _, _, _, _, _, _, _, _, _, _, _, _, _, _, _, _, _, _, _, _, _, _, _, _, rfl, hsl, HV, HB3⟩, by unfold atOf; simp [RowKit.intOf]; omega⟩
  ·have HV : Hid (Ns.fnd (Ns.isK ts kd) (Ns.plc (Ns.ends ts) tz fr) = -1) := Lib.hid (by rw [HN.out, Ns.plc_end hlt]; rfl)
   have d1 : decide (tz <= x) = true := decide_eq_true (by omega)
   clear HF HI HL HN HK H
   go_wp2_with fail
   simp only [Exit.jump]
   go_ret2
   exact ⟨by rw [HV.out]; rfl, HB.out⟩
theorem Try.infoPr : (Try.prog.info? 83).map (fun i => (i.zero, i.size, i.bytes)) = some (some (.agg #[.int .i64 0, .int .i64 0]), 2, 16) := by kernel_rfl
theorem two_ok (x y : Int) : ∀ u ∈ [Value.int .i64 x, .int .i64 y], u.oneCell' = true := by simp [Value.oneCell']
theorem app_pair {ops : Array Oper} {rest : List Oper} {o : Oper} {a : Act} {Q : Exit -> Act -> World -> Prop} {w0 wr : World} {v : Value} {ps : List (Nat × Nat)} (hgd : o.guard = none) (s x : Operand)
 (ho : o.op = .call { callee := .builtin .append, args := #[s, x], argTypes := #[81, 81] }) (hs : a.eval s = v) (H : Ow 83 2 w0 v ps.length (prC ps) wr) (b t : Nat) (c : Nat) (E' : TypeId)
 (hx : a.eval x = .slice (some ⟨wr.heap.size, 0, none⟩) 1 c) (hm : ps.length <= 1000000)
 (h : ∀ v' w3, Ow 83 2 w0 v' (ps ++ [(b, t)]).length (prC (ps ++ [(b, t)])) w3 -> wpList Try.prog ops Q rest (a.put o.dst v') w3) : wpList Try.prog ops Q (o :: rest) a (wr.alloc (.cells #[.int .i64 b, .int .i64 t] E')) := by
 obtain ⟨i0, hi, hz0, hz1, hz2⟩ := info_parts Try.infoPr
 refine app_own hgd s x 81 ho i0 _ 16 Try.underlying81 hi hz0 hz1 hz2 rfl (by decide) hs H [.int .i64 b, .int .i64 t] c E' _ rfl hx rfl (two_ok _ _) (by unfold maxLen; omega) (by omega) (fun v' w3 H3 => ?_)
 refine h v' w3 ?_
 unfold prC
 rw [List.length_append, Ns.flat_app, nums_app]
 exact H3
end Go.Proofs.Ytaofkaehhikfaaa
