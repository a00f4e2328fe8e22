/-
  Words for nest's Ends: a row of places beside a row of the call's own. No run of the program in this text.
-/
import Derived.Test.YtaofkaehhikfaaaGaa
import Derived.Deep.OwnRows
import Derived.Laws.MakeOwn
import Derived.Deep.QuietTactic
import Derived.BigQuiet
import Derived.Lib.Hide
import Derived.Deep.DeepCutAuto
import Derived.Deep.Cut
import Derived.Deep.CutRange
import Derived.Deep.RegionHeld3
import Derived.Deep.RegionWith
import Derived.ScopeJumps
import Derived.LoopTactic
import Derived.IntWalk
import Derived.Test.YtaofkaehhikfaaaGab
import Derived.WalkSpells
import Derived.Lib.SliceRun
import Derived.Laws.IdiomCopy
import Derived.Lib.Strings
import Derived.Laws.IdiomStrings
import Derived.Laws.BytesArg
set_option maxHeartbeats 16000000
set_option maxRecDepth 100000
namespace Go.Proofs.Ytaofkaehhikfaaa
open Go.RowKit
structure En (B b : Nat) (w : World) (es : List Int) (v : Value) (op : List Int) (wr : World) : Prop where
 own : wr.ownsRow B 3 1 v op.length (nums .i64 op)
 row : wr.heap[b]? = some (.cells (nums .i64 es).toArray 3 (0, 0))
 bel : Below w.heap.size w wr
 new : w.heap.size <= b
 lt : b < B
 siz : B <= wr.heap.size
section
variable {B b : Nat} {w wr w1 : World} {es op : List Int} {v : Value}
theorem En.next (h : En B b w es v op wr) (hb : Below wr.heap.size wr w1) : En B b w es v op w1 :=
 ⟨kept_below h.own hb (Nat.le_refl _), (hb.block b (Nat.lt_of_lt_of_le h.lt h.siz)).trans h.row, below_next h.bel hb, h.new, h.lt, Nat.le_trans h.siz hb.size⟩
theorem En.drewN (h : En B b w es v op wr) (n : Nat) : En B b w es v op (wr.drewN n) := ⟨h.own, h.row, below_drewN h.bel n, h.new, h.lt, h.siz⟩
theorem En.cell (h : En B b w es v op wr) {j : Nat} (hj : j < es.length) : wr.cell? ⟨b, j, none⟩ = some (.int .i64 (Ru.g es j)) := by
 rw [cell_of_row wr b j _ 3 (0, 0) h.row, List.getElem?_toArray]
 exact nums_get hj
theorem En.free (h : En B b w es v op wr) (j : Nat) : wr.frozen? ⟨b, j, none⟩ = false := by simp [World.frozen?, h.row]
theorem En.set_ (h : En B b w es v op wr) (j : Nat) (y : Int) : En B b w (es.set j y) v op (wr.setCell ⟨b, j, none⟩ (.int .i64 y)) := by
 refine ⟨?_, ?_, h.bel.setCell h.new _, h.new, h.lt, ?_⟩
 ·refine ⟨h.own.1, ?_⟩
  rcases h.own.2 with h1 | ⟨g, cap, cur, hv, hg, hh, rest⟩
  ·exact .inl h1
  ·exact .inr ⟨g, cap, cur, hv, hg, (Below.heap_setCell wr _ _ g (fun e => by have := h.lt; have e2 : g = b := e; omega)).trans hh, rest⟩
 ·have hr := h.row
  unfold World.setCell
  simp [Array.getElem?_modify, hr, nums, List.map_set]
 ·have := h.siz; simpa [World.setCell] using this
theorem En.cut {A : Option Addr} {n cap : Nat} (hn : n = op.length) (h : En B b w es (.slice A n cap) op wr) {m : Nat} (hm : m <= n) : En B b w es (.slice A m cap) (op.take m) wr := by
 subst hn
 have h1 := own_cut h.own hm
 rw [Nat.mul_one, <- nums_take] at h1
 have e : (op.take m).length = m := by rw [List.length_take]; exact Nat.min_eq_left hm
 exact ⟨by rw [e]; exact h1, h.row, h.bel, h.new, h.lt, h.siz⟩
theorem En.form (h : En B b w es v op wr) : ∃ (A : Option Addr) (cap : Nat), v = .slice A op.length cap /\ op.length <= cap := by
 rcases h.own.2 with ⟨rfl, h0⟩ | ⟨x, cap, cur, rfl, _, _, hc, _⟩
 ·exact ⟨none, 0, by rw [h0], by omega⟩
 ·exact ⟨_, cap, rfl, hc⟩
theorem En.at_ (h : En B b w es v op wr) (h0 : 0 < op.length) : ∃ g cap, v = .slice (some ⟨g, 0, none⟩) op.length cap /\ op.length <= cap /\ g < wr.heap.size /\ ∀ j, j < op.length -> wr.cell? ⟨g, j, none⟩ = some (.int .i64 (Ru.g op j)) := by
 rcases h.own.2 with ⟨_, h1⟩ | ⟨x, cap, cur, rfl, hg, hh, hc, _⟩
 ·omega
 ·refine ⟨x, cap, rfl, hc, (Array.getElem?_eq_some_iff.1 hh).1, fun j hj => ?_⟩
  have := h.own.cells (g := x) rfl j _ (nums_get (k := .i64) hj)
  rwa [Addr.add_lit, Nat.zero_add] at this
theorem En.app {ops : Array Oper} {rest : List Oper} {o : Oper} {a : Act} {Q : Exit -> Act -> World -> Prop} (hgd : o.guard = none) (s x : Operand)
 (ho : o.op = .call { callee := .builtin .append, args := #[s, x], argTypes := #[39, 39] }) (hs : a.eval s = v) (H : En B b w es v op wr) (y : Int) (c : Nat) (E' : TypeId)
 (hx : a.eval x = .slice (some ⟨wr.heap.size, 0, none⟩) 1 c) (hm : op.length <= 1000000)
 (h : ∀ v' w3, En B b w es v' (op ++ [y]) w3 -> wpList Try.prog ops Q rest (a.put o.dst v') w3) : wpList Try.prog ops Q (o :: rest) a (wr.alloc (.cells #[.int .i64 y] E')) := by
 obtain ⟨i0, hi, hz0, hz1, hz2⟩ := info_parts Try.info3
 refine wpList_append_own _ hgd s x 39 ho B 3 i0 (.int .i64 0) 1 8 Try.underlying39 hi hz0 hz1 hz2 rfl (by decide) v op.length (nums .i64 op) hs (H.own.alloc _) ⟨wr.heap.size, 0, none⟩ 1 c [.int .i64 y] hx (by simp) (fun j u hj => ?_) (one_ok _) (by unfold maxLen; omega) (by omega) (Nat.le_trans H.siz (by simp)) ?_
 ·rw [Addr.add_lit, Nat.zero_add, World.cell?_alloc_mark]
  simpa using hj
 ·intro v' w3 hown hg _
  refine h v' w3 ⟨?_, ?_, ?_, H.new, H.lt, ?_⟩
  ·rw [List.length_append, nums_app]; exact hown
  ·have hlt : b < wr.heap.size := Nat.lt_of_lt_of_le H.lt H.siz
   refine (hg.block b (by simp; omega) (fun e => ?_)).trans ((Below.heap_alloc wr _ b hlt).trans H.row)
   have := (H.own.lt b e.symm).1
   have := H.lt
   omega
  ·refine (H.bel.alloc H.bel.size _).grown hg (by have := H.bel.size; simp; omega) (fun j hj => ?_)
   have h1 := (H.own.lt j hj).1
   have h2 := H.bel.size
   have h3 := H.lt
   have h4 := H.new
   omega
  ·have := hg.size
   have := H.siz
   simp at *
   omega
theorem En.told {n : Nat} (hn : es.length = n) (hm : n <= 1000000) (h : En B b w es v op wr) : wr.ownsRow w.heap.size 3 1 (.slice (some ⟨b, 0, none⟩) n n) es.length (nums .i64 es) := by
 subst hn
 refine ⟨by rw [nums_len, Nat.mul_one], .inr ⟨b, es.length, _, rfl, h.new, h.row, Nat.le_refl _, by unfold maxLen; omega, by simp [nums_len], ?_⟩⟩
 rw [Nat.mul_one, List.toList_toArray, List.take_of_length_le (by rw [nums_len]; exact Nat.le_refl _)]
end
theorem made_zero (n : Nat) : madeCells #[Value.int .i64 0] n = (nums .i64 (List.replicate n 0)).toArray := by
 unfold madeCells nums
 apply Array.ext
 ·simp
 ·intro i h1 h2
  simp [Nat.mod_one]
namespace Ns
open Tk
def enZ (ts : List Tok) (k : Nat) : List Int := enF ts k ++ List.replicate (ts.length - k) 0
theorem enZ_len {ts : List Tok} {k : Nat} (h : k <= ts.length) : (enZ ts k).length = ts.length := by unfold enZ; rw [List.length_append, enF_len, List.length_replicate]; omega
theorem enZ_end (ts : List Tok) : enZ ts ts.length = ends ts := by unfold enZ; rw [Nat.sub_self]; simp [ends]
theorem rep_set {n : Nat} (h : 0 < n) (y : Int) : (List.replicate n (0 : Int)).set 0 y = y :: List.replicate (n - 1) 0 := by
 obtain ⟨m, rfl⟩ : ∃ m, n = m + 1 := ⟨n - 1, by omega⟩
 rfl
theorem enZ_mark {ts : List Tok} {k : Nat} (h : k < ts.length) (y : Int) : (enZ ts k).set k y = enF ts k ++ y :: List.replicate (ts.length - (k + 1)) 0 := by
 unfold enZ
 rw [List.set_append_right _ _ (by rw [enF_len]; exact Nat.le_refl _), enF_len, Nat.sub_self, rep_set (by omega)]
 congr 3
theorem enZ_push {ts : List Tok} {k : Nat} (h : k < ts.length) (hO : isO (tk ts k)) : ((enZ ts k).set k (-1)).set k (ts.length : Int) = enZ ts (k + 1) := by
 rw [List.set_set, enZ_mark h]
 unfold enZ
 rw [enF_push hO, List.append_assoc]; rfl
theorem enZ_keep {ts : List Tok} {k : Nat} (h : k < ts.length) (hO : ¬ isO (tk ts k)) (hc : ¬ closes ts (opn ts k) k) : (enZ ts k).set k (-1) = enZ ts (k + 1) := by
 rw [enZ_mark h]
 unfold enZ
 rw [enF_keep hO hc, List.append_assoc]; rfl
theorem enZ_pop {ts : List Tok} {k : Nat} (h : k < ts.length) (hc : closes ts (opn ts k) k) : ((enZ ts k).set k (-1)).set (top (opn ts k)) (k : Int) = enZ ts (k + 1) := by
 have ht : top (opn ts k) < k := opn_lt (top_mem hc.2.1)
 rw [enZ_mark h]
 unfold enZ
 rw [enF_pop hc, List.append_assoc, List.set_append_left _ _ (by rw [enF_len]; exact ht)]; rfl
end Ns
theorem closing_any (k : Int) (t : ByteArray) (n : Int) (w : World) : Calls Try.prog 81 #[tokV k t n] w (Sg (Ns.clo (k, t, n)) w) := by
 obtain ⟨W0, hW⟩ : ∃ W0, W0 = w.alloc (.cells #[.int .i64 k, .string t, .int .i64 n] 36) := ⟨_, rfl⟩
 have hb0 : Below w.heap.size w W0 := by rw [hW]; exact (Below.refl _ _).alloc (Nat.le_refl _) _
 have k0 : W0.heap[w.heap.size]? = some (.cells #[.int .i64 k, .string t, .int .i64 n] 36 (0, 0)) := by rw [hW]; exact heap_alloc_new w _
 obtain ⟨q0, q1, q2⟩ := tok3_cells k0
 have HB0 := Lib.hid hb0
 have HW := Lib.hid hW
 clear hb0 k0 hW
 unfold tokV
 by_cases h3 : k = 3
 ·subst h3
  have HV : Hid (Ns.clo (3, t, n) = ⟨#[41]⟩) := Lib.hid (by unfold Ns.clo; rw [if_pos (.inl rfl)])
  go_enter Try.func81, Try.ntmps81
  go_upto_region 1 with fail
  rw [<- HW.out]
  go_wp2_with fail
  go_ret
  exact ⟨by rw [HV.out]; rfl, HB0.out⟩
 ·have e3 : (k == 3) = false := beq_false_of_ne h3
  by_cases h12 : k = 12
  ·subst h12
   clear h3
   have cases4 : t = ⟨#[40]⟩ ∨ t = ⟨#[91]⟩ ∨ t = ⟨#[123]⟩ ∨ ((t.toList == [40]) = false /\ (t.toList == [91]) = false /\ (t.toList == [123]) = false) := by
    rw [str_test, str_test, str_test]
    by_cases a : t = ⟨#[40]⟩
    ·exact .inl a
    ·by_cases b : t = ⟨#[91]⟩
     ·exact .inr (.inl b)
     ·by_cases c : t = ⟨#[123]⟩
      ·exact .inr (.inr (.inl c))
      ·exact .inr (.inr (.inr ⟨decide_eq_false a, decide_eq_false b, decide_eq_false c⟩))
   have HV : Hid (t = ⟨#[40]⟩ ∨ t = ⟨#[91]⟩ ∨ t = ⟨#[123]⟩ ∨ Ns.clo (12, t, n) = ⟨#[]⟩) := Lib.hid (by
    rcases cases4 with h | h | h | ⟨h1, h2, h3⟩
    ·exact .inl h
    ·exact .inr (.inl h)
    ·exact .inr (.inr (.inl h))
    ·rw [str_test] at h1 h2 h3
     refine .inr (.inr (.inr ?_))
     unfold Ns.clo
     rw [if_neg (fun h => h.elim (fun h => by cases h) (fun h => of_decide_eq_false h1 h.2)), if_neg (fun h => of_decide_eq_false h2 h.2), if_neg (fun h => of_decide_eq_false h3 h.2)])
   rcases cases4 with rfl | rfl | rfl | ⟨e4, e5, e6⟩
   ·clear HV
    go_enter Try.func81, Try.ntmps81
    go_upto_region 1 with fail
    rw [<- HW.out]
    go_wp2_with fail
    go_ret
    exact ⟨rfl, HB0.out⟩
   ·clear HV
    go_enter Try.func81, Try.ntmps81
    go_upto_region 1 with fail
    rw [<- HW.out]
    go_wp2_with fail
    go_ret
    exact ⟨rfl, HB0.out⟩
   ·clear HV
    go_enter Try.func81, Try.ntmps81
    go_upto_region 1 with fail
    rw [<- HW.out]
    go_wp2_with fail
    go_ret
    exact ⟨rfl, HB0.out⟩
   ·have HV2 : Hid (Ns.clo (12, t, n) = ⟨#[]⟩) := Lib.hid (by
     rcases HV.out with h | h | h | h
     ·rw [str_test] at e4; exact absurd h (of_decide_eq_false e4)
     ·rw [str_test] at e5; exact absurd h (of_decide_eq_false e5)
     ·rw [str_test] at e6; exact absurd h (of_decide_eq_false e6)
     ·exact h)
    clear HV
    go_enter Try.func81, Try.ntmps81
    go_upto_region 1 with fail
    rw [<- HW.out]
    go_wp2_with fail
    go_ret
    exact ⟨by rw [HV2.out]; rfl, HB0.out⟩
  ·have e12 : (k == 12) = false := beq_false_of_ne h12
   have HV : Hid (Ns.clo (k, t, n) = ⟨#[]⟩) := Lib.hid (Ns.clo_none (Ns.not_O h3 h12))
   clear h3 h12
   go_enter Try.func81, Try.ntmps81
   go_upto_region 1 with fail
   rw [<- HW.out]
   go_wp2_with fail
   go_ret
   exact ⟨by rw [HV.out]; rfl, HB0.out⟩
def Ns.shuts (u o : Tk.Tok) : Prop := u.1 = 13 /\ Ns.clo o = u.2.1
instance (u o : Tk.Tok) : Decidable (Ns.shuts u o) := by unfold Ns.shuts; infer_instance
theorem ncloses_any (k : Int) (t : ByteArray) (n : Int) (k2 : Int) (t2 : ByteArray) (n2 : Int) (w : World) :
 Calls Try.prog 82 #[tokV k t n, tokV k2 t2 n2] w (Bo (decide (Ns.shuts (k, t, n) (k2, t2, n2))) w) := by
 obtain ⟨W0, hW⟩ : ∃ W0, W0 = (w.alloc (.cells #[.int .i64 k, .string t, .int .i64 n] 36)).alloc (.cells #[.int .i64 k2, .string t2, .int .i64 n2] 36) := ⟨_, rfl⟩
 have hb0 : Below w.heap.size w W0 := by rw [hW]; exact ((Below.refl _ _).alloc (Nat.le_refl _) _).alloc (by simp) _
 have k0 : W0.heap[w.heap.size]? = some (.cells #[.int .i64 k, .string t, .int .i64 n] 36 (0, 0)) := by
  rw [hW]; exact (Below.heap_alloc _ _ _ (by simp)).trans (heap_alloc_new w _)
 have k1 : W0.heap[w.heap.size + 1]? = some (.cells #[.int .i64 k2, .string t2, .int .i64 n2] 36 (0, 0)) := by
  rw [hW]
  have := heap_alloc_new (w.alloc (.cells #[.int .i64 k, .string t, .int .i64 n] 36)) (.cells #[.int .i64 k2, .string t2, .int .i64 n2] 36)
  rwa [show (w.alloc (.cells #[.int .i64 k, .string t, .int .i64 n] 36)).heap.size = w.heap.size + 1 by simp] at this
 have hz0 : w.heap.size + 1 < W0.heap.size := by rw [hW]; simp
 obtain ⟨p0, p1, p2⟩ := tok3_cells k0
 obtain ⟨q0, q1, q2⟩ := tok3_cells k1
 have HB0 := Lib.hid hb0
 have HW := Lib.hid hW.symm
 have CC : Hid (∀ W, Calls Try.prog 81 #[.agg #[.int .i64 k2, .string t2, .int .i64 n2]] W (Sg (Ns.clo (k2, t2, n2)) W)) := Lib.hid fun W => closing_any _ _ _ W
 clear hb0 k0 k1 hW
 unfold tokV
 by_cases h : k = 13
 ·subst h
  have HV : Hid ((t.toList == (Ns.clo (k2, t2, n2)).toList) = decide (Ns.shuts (13, t, n) (k2, t2, n2))) := Lib.hid (by
   rw [str_same]
   exact decide_eq_decide.2 ⟨fun h => ⟨rfl, h.symm⟩, fun h => h.2.symm⟩)
  generalize Ns.clo (k2, t2, n2) = ct at *
  generalize decide (Ns.shuts (13, t, n) (k2, t2, n2)) = bv at *
  go_enter Try.func82, Try.ntmps82
  go_upto_region 1 with fail
  rw [HW.out]
  clear HW
  have hs0 : w.heap.size < W0.heap.size := by omega
  go_region_held3 (fun w' => w'.cell? ⟨w.heap.size, 0, none⟩ = some (.int .i64 13) /\ w'.cell? ⟨w.heap.size, 1, none⟩ = some (.string t) /\ w'.cell? ⟨w.heap.size + 1, 0, none⟩ = some (.int .i64 k2) /\ w'.cell? ⟨w.heap.size + 1, 1, none⟩ = some (.string t2) /\ w'.cell? ⟨w.heap.size + 1, 2, none⟩ = some (.int .i64 n2))
   (first | go_keep | (go_split_ands; exact ⟨(hb1.cell (p := ⟨w.heap.size, 0, none⟩) hs0).trans (by assumption), (hb1.cell (p := ⟨w.heap.size, 1, none⟩) hs0).trans (by assumption), (hb1.cell (p := ⟨w.heap.size + 1, 0, none⟩) hz0).trans (by assumption), (hb1.cell (p := ⟨w.heap.size + 1, 1, none⟩) hz0).trans (by assumption), (hb1.cell (p := ⟨w.heap.size + 1, 2, none⟩) hz0).trans (by assumption)⟩))
   (first | (go_at_call 81; refine (CC.out _).mono ?_; rintro e w2 ⟨rfl, hb1⟩))
  have HB2 := Lib.hid (below_next HB0.out ((Below.refl _ _).drew.trans hb1))
  clear hb1 p0 p1 p2 q0 q1 q2
  go_wp2_with fail
  go_ret
  exact ⟨by rw [<- HV.out]; rfl, HB2.out⟩
 ·have e : (k == 13) = false := beq_false_of_ne h
  have HV : Hid (decide (Ns.shuts (k, t, n) (k2, t2, n2)) = false) := Lib.hid (decide_eq_false fun c => h c.1)
  clear h
  go_enter Try.func82, Try.ntmps82
  go_upto_region 1 with fail
  rw [HW.out]
  clear HW
  go_quiet (fail)
  go_wp2_with fail
  go_ret
  exact ⟨by rw [HV.out]; rfl, below_drewN HB0.out _⟩
def EndsJ (ts : List Tk.Tok) (A : Option Addr) (cap : Nat) (w : World) (a' : Act) (wr : World) : Prop :=
 ∃ (k : Nat) (v : Value) (u1 u2 u3 u7 u8 u9 u10 u11 u12 u13 u14 u15 u16 u17 u18 u19 u20 u21 u22 u23 u24 u25 u26 u27 u28 u29 u30 u31 u32 u33 u34 u35 u36 u37 u38 u39 u40 u41 u42 u43 u44 u45 u46 u47 u48 u49 u50 u51 u52 u53 u54 u55 u56 u57 u58 u59 u60 u61 u62 u63 u64 u65 u66 u67 : Value), a' = { tmps := #[.slice A ts.length cap, u1, u2, u3, .slice (some ⟨w.heap.size, 0, none⟩) ts.length ts.length, v, .int .i64 k, u7, u8, u9, u10, u11, u12, u13, u14, u15, u16, u17, u18, u19, u20, u21, u22, u23, u24, u25, u26, u27, u28, u29, u30, u31, u32, u33, u34, u35, u36, u37, u38, u39, u40, u41, u42, u43, u44, u45, u46, u47, u48, u49, u50, u51, u52, u53, u54, u55, u56, u57, u58, u59, u60, u61, u62, u63, u64, u65, u66, u67], defers := [] } /\ k <= ts.length /\ Hid (En (w.heap.size + 1) w.heap.size w (Ns.enZ ts k) v (Ns.ni (Ns.opn ts k)) wr) /\ Hid (∀ j, j <= k -> (Ns.opn ts j).length <= 64)
def at6 (a : Act) : Nat := (RowKit.intOf (a.tmps.getD 6 undef)).toNat
theorem shuts_iff {ts : List Tk.Tok} {k : Nat} (hn : Ns.opn ts k ≠ []) : Ns.shuts (Tk.tk ts k) (Tk.tk ts (Ns.top (Ns.opn ts k))) ↔ Ns.closes ts (Ns.opn ts k) k := ⟨fun h => ⟨h.1, hn, h.2⟩, fun h => ⟨h.1, h.2.2⟩⟩
theorem nends_code (ts : List Tk.Tok) (hm : ts.length <= 20000) (A : Option Addr) (cap : Nat) (w : World) (h : Ts w w.heap.size A ts) :
 Calls Try.prog 62 #[.slice A ts.length cap] w (EndsIs ts w) := by
 have hmk := run_make_row' (P := Try.prog) 39 3 (.int .i64 0) 8 Try.underlying39 Try.info3 rfl .i64 .i64 ts.length (by omega) (by omega)
 have HT := Lib.hid h
 obtain ⟨W0, hW⟩ : ∃ W0, W0 = w.alloc (.cells (madeCells #[.int .i64 0] ts.length) 3) := ⟨_, rfl⟩
 have HE0 : Hid (En (w.heap.size + 1) w.heap.size w (Ns.enZ ts 0) (.slice none 0 0) (Ns.ni (Ns.opn ts 0)) W0) := Lib.hid (by
  rw [hW]
  refine ⟨World.ownsRow_nil _ _ _ _, ?_, (Below.refl _ _).alloc (Nat.le_refl _) _, Nat.le_refl _, Nat.lt_succ_self _, by simp⟩
  rw [show Ns.enZ ts 0 = List.replicate ts.length 0 from rfl, <- made_zero]
  exact heap_alloc_new w _)
 have HW := Lib.hid hW.symm
 clear h hW
 go_enter Try.func62, Try.ntmps62
 go_wp2_with fail
 refine wp_scope_jumps 0 (fun a' wr => EndsJ ts A cap w a' wr) (fun a' _ => ts.length - at6 a') rfl ?_ ?_
 ·go_upto_region 2 with fail
  rw [HW.out]
  clear HW hmk
  go_wp2_with fail
  try go_step3
  have hk0 : 0 <= ts.length := Nat.zero_le _
  have HD : Hid (∀ j, j <= 0 -> (Ns.opn ts j).length <= 64) := Lib.hid fun j hj => by obtain rfl : j = 0 := by omega
                                                                                      exact Nat.zero_le _
  by_cases hlt : 0 < ts.length
  ·have hcell := HE0.out.cell (j := 0) (by rw [Ns.enZ_len hk0]; exact hlt)
   have hfree := HE0.out.free 0
   obtain ⟨W1, hW1⟩ : ∃ W1, W1 = W0.setCell ⟨w.heap.size, 0, none⟩ (.int .i64 (-1)) := ⟨_, rfl⟩
   have HE1 : Hid (En (w.heap.size + 1) w.heap.size w ((Ns.enZ ts 0).set 0 (-1)) (.slice none 0 0) (Ns.ni (Ns.opn ts 0)) W1) := Lib.hid (by rw [hW1]; exact HE0.out.set_ 0 (-1))
   have HW1 := Lib.hid hW1.symm
   obtain ⟨bb, off, rfl, hbb, hp⟩ := (HT.out.next HE1.out.bel) (by omega)
   obtain ⟨p0, p1, p2⟩ := hp 0 hlt
   have HP := Lib.hid hp
   have CC : Hid (∀ W, Calls Try.prog 81 #[.agg #[.int .i64 (Tk.tk ts 0).1, .string (Tk.tk ts 0).2.1, .int .i64 (Tk.tk ts 0).2.2]] W (Sg (Ns.clo (Tk.tk ts 0)) W)) := Lib.hid fun W => closing_any _ _ _ W
   have hol := Ns.opn_len ts 0
   have hnl := Ns.ni_len (Ns.opn ts 0)
   have hne : (0 == ts.length) = false := beq_false_of_ne (by omega)
   have hne2 : (((0 : Nat) : Int) == (ts.length : Int)) = false := beq_false_of_ne (by omega)
   have hzl := Ns.enZ_len (ts := ts) (k := 0) hk0
   have hd0 := HD.out 0 (Nat.le_refl _)
   clear hp hW1
   simp only [Nat.zero_mul, Nat.add_zero] at p0 p1 p2
   go_upto_region 7 with fail
   rw [HW1.out]
   clear HW1 hcell hfree
   by_cases hO : Ns.isO (Tk.tk ts 0)
   ·have he := Ns.empty_f hO
    have HN : Hid (Ns.ni (Ns.opn ts 1) = Ns.ni (Ns.opn ts 0) ++ [((0 : Nat) : Int)]) := Lib.hid (by rw [show 1 = 0 + 1 from rfl, Ns.opn_push hO, Ns.ni_app]; rfl)
    have HZ := Lib.hid (Ns.enZ_push hlt hO)
    have hpl : (Ns.opn ts 1).length = (Ns.opn ts 0).length + 1 := by rw [show 1 = 0 + 1 from rfl, Ns.opn_push hO]; simp
    have HV := HZ.out
    have e64 : ((Ns.ni (Ns.opn ts 0)).length == 64) = false := beq_false_of_ne (by omega)
    have e64i : (((Ns.ni (Ns.opn ts 0)).length : Int) == 64) = false := beq_false_of_ne (by omega)
    have HD2 : Hid (∀ j, j <= 1 -> (Ns.opn ts j).length <= 64) := Lib.hid fun j hj => by
     by_cases e : j = 1
     ·subst e; omega
     ·exact HD.out j (by omega)
    have hzk : 0 < ((Ns.enZ ts 0).set 0 (-1)).length := by rw [List.length_set]; omega
    have hol2 : (Ns.ni (Ns.opn ts 0)).length <= 1000000 := by omega
    clear hpl hnl hol
    generalize Ns.clo (Tk.tk ts 0) = cl at *
    generalize Tk.tk ts 0 = u at *
    go_upto_region 10 with (go_at_call 81; ((with_reducible refine (CC.out _).mono ?_); rintro e w2 ⟨rfl, b2⟩; have HE2 := Lib.hid (HE1.out.next b2); clear b2))
    have c3 := HE2.out.cell hzk
    have z3 := HE2.out.free 0
    obtain ⟨W3, hW3⟩ : ∃ W3, W3 = w2.setCell ⟨w.heap.size, 0, none⟩ (.int .i64 ts.length) := ⟨_, rfl⟩
    have HE3 : Hid (En (w.heap.size + 1) w.heap.size w (Ns.enZ ts 1) (.slice none 0 0) (Ns.ni (Ns.opn ts 0)) W3) := Lib.hid (by rw [hW3, <- HV]; exact HE2.out.set_ 0 _)
    have HW3 := Lib.hid hW3.symm
    clear hW3 hzk HV
    go_upto_region 11 with fail
    rw [HW3.out]
    clear HW3 c3 z3
    go_wp2_with (at_builtin; refine En.app rfl _ _ rfl rfl HE3.out ((0 : Nat) : Int) _ _ rfl hol2 ?_; intro v' w4 H4; rw [<- HN.out] at H4; have HE4 := Lib.hid H4; clear H4)
    go_step3
    exact ⟨rfl, ⟨1, _, _, _, _, _, _, _, _, _, _, _, _, _, _, _, _, _, _, _, _, _, _, _, _, _, _, _, _, _, _, _, _, _, _, _, _, _, _, _, _, _, _, _, _, _, _, _, _, _, _, _, _, _, _, _, _, _, _, _, _, _, _, _, _, _, rfl, by omega, HE4, HD2⟩⟩
   ·have hcn := Ns.clo_none hO
    rw [hcn] at CC
    have hcc : ¬ Ns.closes ts (Ns.opn ts 0) 0 := fun h => h.2.1 rfl
    have HN : Hid (Ns.ni (Ns.opn ts 1) = Ns.ni (Ns.opn ts 0)) := Lib.hid (by rw [show (1 : Nat) = 0 + 1 from rfl, Ns.opn_keep hO hcc])
    have HZ := Lib.hid (Ns.enZ_keep hlt hO hcc)
    have HD2 : Hid (∀ j, j <= 1 -> (Ns.opn ts j).length <= 64) := Lib.hid fun j hj => by
     by_cases e : j = 1
     ·subst e; rw [show (1 : Nat) = 0 + 1 from rfl, Ns.opn_keep hO hcc]; exact Nat.zero_le _
     ·exact HD.out j (by omega)
    clear hcn hO hcc HP hol hnl hd0
    generalize Tk.tk ts 0 = u at *
    go_upto_region 13 with (go_at_call 81; ((with_reducible refine (CC.out _).mono ?_); rintro e w2 ⟨rfl, b2⟩; have HE2 := Lib.hid (HE1.out.next b2); clear b2))
    go_quiet (fail)
    go_wp2_with fail
    go_step3
    have HE3 : Hid (En (w.heap.size + 1) w.heap.size w (Ns.enZ ts 1) (.slice none 0 0) (Ns.ni (Ns.opn ts 1)) (w2.drewN nq)) := Lib.hid (by rw [HN.out]; have := HE2.out.drewN nq; rw [HZ.out] at this; exact this)
    exact ⟨rfl, ⟨1, _, _, _, _, _, _, _, _, _, _, _, _, _, _, _, _, _, _, _, _, _, _, _, _, _, _, _, _, _, _, _, _, _, _, _, _, _, _, _, _, _, _, _, _, _, _, _, _, _, _, _, _, _, _, _, _, _, _, _, _, _, _, _, _, _, rfl, by omega, HE3, HD2⟩⟩
  ·obtain rfl : ts = [] := List.eq_nil_of_length_eq_zero (by omega)
   have HF := Lib.hid (HE0.out.told (Ns.enZ_len hk0) (by omega))
   have HB := Lib.hid HE0.out.bel
   have HZ := Lib.hid (show Ns.enZ [] 0 = Ns.ends [] from Ns.enZ_end [])
   simp only [List.length_nil]
   go_wp2_with fail
   simp only [Exit.jump]
   go_ret2
   exact ⟨fun _ => ⟨_, rfl, by have := HF.out; rw [HZ.out] at this; exact this, HB.out⟩, fun ⟨j, h1, h2⟩ => by have := HD.out (j + 1) (by omega); omega⟩
 ·rintro a' wr ⟨k, v, u1, u2, u3, u7, u8, u9, u10, u11, u12, u13, u14, u15, u16, u17, u18, u19, u20, u21, u22, u23, u24, u25, u26, u27, u28, u29, u30, u31, u32, u33, u34, u35, u36, u37, u38, u39, u40, u41, u42, u43, u44, u45, u46, u47, u48, u49, u50, u51, u52, u53, u54, u55, u56, u57, u58, u59, u60, u61, u62, u63, u64, u65, u66, u67, rfl, hk, HE, HD⟩
  clear HW hmk HE0
  obtain ⟨Av, cv, rfl, _⟩ := HE.out.form
  by_cases hlt : k < ts.length
  ·have hcell := HE.out.cell (j := k) (by rw [Ns.enZ_len hk]; exact hlt)
   have hfree := HE.out.free k
   obtain ⟨W1, hW1⟩ : ∃ W1, W1 = wr.setCell ⟨w.heap.size, k, none⟩ (.int .i64 (-1)) := ⟨_, rfl⟩
   have HE1 : Hid (En (w.heap.size + 1) w.heap.size w ((Ns.enZ ts k).set k (-1)) (.slice Av (Ns.ni (Ns.opn ts k)).length cv) (Ns.ni (Ns.opn ts k)) W1) := Lib.hid (by rw [hW1]; exact HE.out.set_ k (-1))
   have HW1 := Lib.hid hW1.symm
   obtain ⟨bb, off, rfl, hbb, hp⟩ := (HT.out.next HE1.out.bel) (by omega)
   obtain ⟨p0, p1, p2⟩ := hp k hlt
   have HP := Lib.hid hp
   have CC : Hid (∀ W, Calls Try.prog 81 #[.agg #[.int .i64 (Tk.tk ts k).1, .string (Tk.tk ts k).2.1, .int .i64 (Tk.tk ts k).2.2]] W (Sg (Ns.clo (Tk.tk ts k)) W)) := Lib.hid fun W => closing_any _ _ _ W
   have hol := Ns.opn_len ts k
   have hnl := Ns.ni_len (Ns.opn ts k)
   have hne : (k == ts.length) = false := beq_false_of_ne (by omega)
   have hne2 : (((k : Nat) : Int) == (ts.length : Int)) = false := beq_false_of_ne (by omega)
   have hzl := Ns.enZ_len (ts := ts) (k := k) hk
   have hd0 := HD.out k (Nat.le_refl _)
   clear hp hW1
   go_upto_region 7 with fail
   rw [HW1.out]
   clear HW1 hcell hfree
   by_cases hO : Ns.isO (Tk.tk ts k)
   ·have he := Ns.empty_f hO
    have HN : Hid (Ns.ni (Ns.opn ts (k + 1)) = Ns.ni (Ns.opn ts k) ++ [((k : Nat) : Int)]) := Lib.hid (by rw [show (k + 1) = k + 1 from rfl, Ns.opn_push hO, Ns.ni_app]; rfl)
    have HZ := Lib.hid (Ns.enZ_push hlt hO)
    have hpl : (Ns.opn ts (k + 1)).length = (Ns.opn ts k).length + 1 := by rw [show (k + 1) = k + 1 from rfl, Ns.opn_push hO]; simp
    by_cases h64 : (Ns.opn ts k).length = 64
    ·have HV : Hid (Ns.deep ts) := Lib.hid ⟨k, hlt, by omega⟩
     have e64 : ((Ns.ni (Ns.opn ts k)).length == 64) = true := by rw [hnl, h64]; rfl
     have e64i : (((Ns.ni (Ns.opn ts k)).length : Int) == 64) = true := by rw [hnl, h64]; rfl
     clear h64 hpl hnl hol HN HZ HP
     generalize Ns.clo (Tk.tk ts k) = cl at *
     generalize Tk.tk ts k = u at *
     go_wp2_with (go_at_call 81; ((with_reducible refine (CC.out _).mono ?_); rintro e w2 ⟨rfl, b2⟩; have HE2 := Lib.hid (HE1.out.next b2); clear b2))
     simp only [Exit.jump]
     go_ret2
     exact ⟨fun h => absurd HV.out h, fun _ => ⟨rfl, HE2.out.bel⟩⟩
    ·have HV := HZ.out
     have e64 : ((Ns.ni (Ns.opn ts k)).length == 64) = false := beq_false_of_ne (by omega)
     have e64i : (((Ns.ni (Ns.opn ts k)).length : Int) == 64) = false := beq_false_of_ne (by omega)
     have HD2 : Hid (∀ j, j <= (k + 1) -> (Ns.opn ts j).length <= 64) := Lib.hid fun j hj => by
      by_cases e : j = (k + 1)
      ·subst e; omega
      ·exact HD.out j (by omega)
     have hzk : k < ((Ns.enZ ts k).set k (-1)).length := by rw [List.length_set]; omega
     have hol2 : (Ns.ni (Ns.opn ts k)).length <= 1000000 := by omega
     clear hpl hnl hol
     generalize Ns.clo (Tk.tk ts k) = cl at *
     generalize Tk.tk ts k = u at *
     go_upto_region 10 with (go_at_call 81; ((with_reducible refine (CC.out _).mono ?_); rintro e w2 ⟨rfl, b2⟩; have HE2 := Lib.hid (HE1.out.next b2); clear b2))
     have c3 := HE2.out.cell hzk
     have z3 := HE2.out.free k
     obtain ⟨W3, hW3⟩ : ∃ W3, W3 = w2.setCell ⟨w.heap.size, k, none⟩ (.int .i64 ts.length) := ⟨_, rfl⟩
     have HE3 : Hid (En (w.heap.size + 1) w.heap.size w (Ns.enZ ts (k + 1)) (.slice Av (Ns.ni (Ns.opn ts k)).length cv) (Ns.ni (Ns.opn ts k)) W3) := Lib.hid (by rw [hW3, <- HV]; exact HE2.out.set_ k _)
     have HW3 := Lib.hid hW3.symm
     clear hW3 hzk HV
     go_upto_region 11 with fail
     rw [HW3.out]
     clear HW3 c3 z3
     go_wp2_with (at_builtin; refine En.app rfl _ _ rfl rfl HE3.out ((k : Nat) : Int) _ _ rfl hol2 ?_; intro v' w4 H4; rw [<- HN.out] at H4; have HE4 := Lib.hid H4; clear H4)
     go_step3
     exact ⟨rfl, ⟨k + 1, _, _, _, _, _, _, _, _, _, _, _, _, _, _, _, _, _, _, _, _, _, _, _, _, _, _, _, _, _, _, _, _, _, _, _, _, _, _, _, _, _, _, _, _, _, _, _, _, _, _, _, _, _, _, _, _, _, _, _, _, _, _, _, _, _, rfl, by omega, HE4, HD2⟩, by unfold at6; simp [RowKit.intOf]; omega⟩
   ·have hcn := Ns.clo_none hO
    rw [hcn] at CC
    have HD2 : Hid (∀ j, j <= k + 1 -> (Ns.opn ts j).length <= 64) := Lib.hid fun j hj => by
     by_cases e : j = k + 1
     ·subst e
      by_cases hc : Ns.closes ts (Ns.opn ts k) k
      ·rw [Ns.opn_pop hc, List.length_dropLast]; omega
      ·rw [Ns.opn_keep hO hc]; exact hd0
     ·exact HD.out j (by omega)
    by_cases hl0 : 0 < (Ns.opn ts k).length
    ·have hnn : Ns.opn ts k ≠ [] := by intro e; rw [e] at hl0; simp at hl0
     have hTm := Ns.opn_lt (Ns.top_mem hnn)
     have HIF := Lib.hid (shuts_iff hnn)
     obtain ⟨q0, q1, q2⟩ := HP.out (Ns.top (Ns.opn ts k)) (by omega)
     obtain ⟨g, cg, hvg, _, hg1, hgc0⟩ := HE1.out.at_ (by omega)
     have hgc := hgc0 ((Ns.ni (Ns.opn ts k)).length - 1) (by omega)
     have htg := Ns.top_g hl0
     rw [<- hnl] at htg
     rw [htg] at hgc
     have HX : Hid (Ns.closes ts (Ns.opn ts k) k -> Ns.ni (Ns.opn ts (k + 1)) = (Ns.ni (Ns.opn ts k)).take ((Ns.ni (Ns.opn ts k)).length - 1) /\ ((Ns.enZ ts k).set k (-1)).set (Ns.top (Ns.opn ts k)) (k : Int) = Ns.enZ ts (k + 1)) := Lib.hid fun hc => ⟨by rw [Ns.opn_pop hc, Ns.ni_drop, Ns.ni_len], Ns.enZ_pop hlt hc⟩
     have HY : Hid (¬ Ns.closes ts (Ns.opn ts k) k -> Ns.ni (Ns.opn ts (k + 1)) = Ns.ni (Ns.opn ts k) /\ (Ns.enZ ts k).set k (-1) = Ns.enZ ts (k + 1)) := Lib.hid fun hc => ⟨by rw [Ns.opn_keep hO hc], Ns.enZ_keep hlt hO hc⟩
     have CT : Hid (∀ W, Calls Try.prog 82 #[.agg #[.int .i64 (Tk.tk ts k).1, .string (Tk.tk ts k).2.1, .int .i64 (Tk.tk ts k).2.2], .agg #[.int .i64 (Tk.tk ts (Ns.top (Ns.opn ts k))).1, .string (Tk.tk ts (Ns.top (Ns.opn ts k))).2.1, .int .i64 (Tk.tk ts (Ns.top (Ns.opn ts k))).2.2]] W (Bo (decide (Ns.shuts (Tk.tk ts k) (Tk.tk ts (Ns.top (Ns.opn ts k))))) W)) := Lib.hid fun W => ncloses_any _ _ _ _ _ _ W
     have hTz : Ns.top (Ns.opn ts k) < ((Ns.enZ ts k).set k (-1)).length := by rw [List.length_set]; omega
     have hT1 : Ns.top (Ns.opn ts k) < ts.length := by omega
     have hpos : 0 < (Ns.ni (Ns.opn ts k)).length := by omega
     have hol2 : (Ns.ni (Ns.opn ts k)).length <= 20000 := by omega
     injection hvg with hA _ hcg
     subst hA hcg
     clear hgc0 htg hcn hO hl0 hnn hTm HP hol hnl hd0 hzl
     generalize Tk.tk ts (Ns.top (Ns.opn ts k)) = x at *
     generalize Ns.top (Ns.opn ts k) = T at *
     generalize Tk.tk ts k = u at *
     generalize Ns.ni (Ns.opn ts k) = ol at *
     have hsub : IntKind.i64.wrap ((ol.length : Int) - 1) = (ol.length : Int) - 1 := IntWalk.i64_in _ (by omega)
     have hsn : ((ol.length : Int) - 1).toNat = ol.length - 1 := by omega
     have hsb : (0 : Int) <= (ol.length : Int) - 1 := by omega
     have hti : (T : Int) < (ts.length : Int) := by omega
     have hsl : (ol.length : Int) - 1 < (ol.length : Int) := by omega
     have hk0 : (0 : Int) <= (k : Int) := by omega
     have hs1 : (1 : Int) <= (ol.length : Int) := by omega
     have hs2 : 1 <= ol.length := by omega
     have hk1 : (k : Int) < (ts.length : Int) := by omega
     go_upto_region 13 with (go_at_call 81; ((with_reducible refine (CC.out _).mono ?_); rintro e w2 ⟨rfl, b2⟩; have HE2 := Lib.hid (HE1.out.next b2); have r0 := (b2.cell (p := ⟨bb, off + k * 3, none⟩) hbb).trans p0; have s0 := (b2.cell (p := ⟨bb, off + T * 3, none⟩) hbb).trans q0; have r1 := (b2.cell (p := ⟨bb, off + k * 3 + 1, none⟩) hbb).trans p1; have s1 := (b2.cell (p := ⟨bb, off + T * 3 + 1, none⟩) hbb).trans q1; have r2 := (b2.cell (p := ⟨bb, off + k * 3 + 2, none⟩) hbb).trans p2; have s2 := (b2.cell (p := ⟨bb, off + T * 3 + 2, none⟩) hbb).trans q2; have gc := (b2.cell (p := ⟨g, ol.length - 1, none⟩) hg1).trans hgc; have hbb2 := Nat.lt_of_lt_of_le hbb b2.size; have hg2 := Nat.lt_of_lt_of_le hg1 b2.size; clear b2))
     clear p0 p1 p2 q0 q1 q2 hgc hbb hg1
     by_cases hc : Ns.closes ts (Ns.opn ts k) k
     ·have hbt : decide (Ns.shuts u x) = true := decide_eq_true (HIF.out.2 hc)
      have HXX := Lib.hid (HX.out hc)
      rw [hbt] at CT
      clear hbt HX HY HIF hc
      go_region_held3 (fun w' => w'.cell? ⟨bb, off + k * 3, none⟩ = some (.int .i64 u.1) /\ w'.cell? ⟨bb, off + k * 3 + 1, none⟩ = some (.string u.2.1) /\ w'.cell? ⟨bb, off + k * 3 + 2, none⟩ = some (.int .i64 u.2.2) /\ w'.cell? ⟨bb, off + T * 3, none⟩ = some (.int .i64 x.1) /\ w'.cell? ⟨bb, off + T * 3 + 1, none⟩ = some (.string x.2.1) /\ w'.cell? ⟨bb, off + T * 3 + 2, none⟩ = some (.int .i64 x.2.2) /\ w'.cell? ⟨g, ol.length - 1, none⟩ = some (.int .i64 T))
     (first | go_keep | (go_split_ands; exact ⟨(hb1.cell (p := ⟨bb, off + k * 3, none⟩) hbb2).trans (by assumption), (hb1.cell (p := ⟨bb, off + k * 3 + 1, none⟩) hbb2).trans (by assumption), (hb1.cell (p := ⟨bb, off + k * 3 + 2, none⟩) hbb2).trans (by assumption), (hb1.cell (p := ⟨bb, off + T * 3, none⟩) hbb2).trans (by assumption), (hb1.cell (p := ⟨bb, off + T * 3 + 1, none⟩) hbb2).trans (by assumption), (hb1.cell (p := ⟨bb, off + T * 3 + 2, none⟩) hbb2).trans (by assumption), (hb1.cell (p := ⟨g, ol.length - 1, none⟩) hg2).trans (by assumption)⟩))
     (first | (go_at_call 82; refine (CT.out _).mono ?_; rintro e w3 ⟨rfl, hb1⟩))
      have HE3 := Lib.hid (HE2.out.next ((Below.refl _ _).drew.trans hb1))
      have gc3 := (hb1.cell (p := ⟨g, ol.length - 1, none⟩) hg2).trans gc
      clear hb1 r0 r1 r2 s0 s1 s2 gc
      go_upto_region 14 with fail
      have c5 := HE3.out.cell hTz
      have z5 := HE3.out.free T
      obtain ⟨W4, hW4⟩ : ∃ W4, W4 = w3.setCell ⟨w.heap.size, T, none⟩ (.int .i64 k) := ⟨_, rfl⟩
      have HE4 : Hid (En (w.heap.size + 1) w.heap.size w (Ns.enZ ts (k + 1)) (.slice (some ⟨g, 0, none⟩) ol.length cv) ol W4) := Lib.hid (by rw [hW4, <- HXX.out.2]; exact HE3.out.set_ T _)
      have HW4 := Lib.hid hW4.symm
      clear hW4
      go_upto_region 15 with fail
      rw [HW4.out]
      clear HW4 c5 z5
      go_wp2_with fail
      go_step3
      have HE5 : Hid (En (w.heap.size + 1) w.heap.size w (Ns.enZ ts (k + 1)) (.slice (some ⟨g, 0, none⟩) (ol.length - 1) cv) (Ns.ni (Ns.opn ts (k + 1))) W4) := Lib.hid (by rw [HXX.out.1]; exact HE4.out.cut rfl (Nat.sub_le _ _))
      exact ⟨rfl, ⟨k + 1, _, _, _, _, _, _, _, _, _, _, _, _, _, _, _, _, _, _, _, _, _, _, _, _, _, _, _, _, _, _, _, _, _, _, _, _, _, _, _, _, _, _, _, _, _, _, _, _, _, _, _, _, _, _, _, _, _, _, _, _, _, _, _, _, _, rfl, by omega, HE5, HD2⟩, by unfold at6; simp [RowKit.intOf]; omega⟩
     ·have hbt : decide (Ns.shuts u x) = false := decide_eq_false (fun c => hc (HIF.out.1 c))
      have HYY := Lib.hid (HY.out hc)
      rw [hbt] at CT
      clear hbt HX HY HIF hc
      go_region_held3 (fun w' => w'.cell? ⟨bb, off + k * 3, none⟩ = some (.int .i64 u.1) /\ w'.cell? ⟨bb, off + k * 3 + 1, none⟩ = some (.string u.2.1) /\ w'.cell? ⟨bb, off + k * 3 + 2, none⟩ = some (.int .i64 u.2.2) /\ w'.cell? ⟨bb, off + T * 3, none⟩ = some (.int .i64 x.1) /\ w'.cell? ⟨bb, off + T * 3 + 1, none⟩ = some (.string x.2.1) /\ w'.cell? ⟨bb, off + T * 3 + 2, none⟩ = some (.int .i64 x.2.2) /\ w'.cell? ⟨g, ol.length - 1, none⟩ = some (.int .i64 T))
     (first | go_keep | (go_split_ands; exact ⟨(hb1.cell (p := ⟨bb, off + k * 3, none⟩) hbb2).trans (by assumption), (hb1.cell (p := ⟨bb, off + k * 3 + 1, none⟩) hbb2).trans (by assumption), (hb1.cell (p := ⟨bb, off + k * 3 + 2, none⟩) hbb2).trans (by assumption), (hb1.cell (p := ⟨bb, off + T * 3, none⟩) hbb2).trans (by assumption), (hb1.cell (p := ⟨bb, off + T * 3 + 1, none⟩) hbb2).trans (by assumption), (hb1.cell (p := ⟨bb, off + T * 3 + 2, none⟩) hbb2).trans (by assumption), (hb1.cell (p := ⟨g, ol.length - 1, none⟩) hg2).trans (by assumption)⟩))
     (first | (go_at_call 82; refine (CT.out _).mono ?_; rintro e w3 ⟨rfl, hb1⟩))
      have HE3 : Hid (En (w.heap.size + 1) w.heap.size w (Ns.enZ ts (k + 1)) (.slice (some ⟨g, 0, none⟩) ol.length cv) (Ns.ni (Ns.opn ts (k + 1))) w3) := Lib.hid (by rw [HYY.out.1, <- HYY.out.2]; exact HE2.out.next ((Below.refl _ _).drew.trans hb1))
      clear hb1 r0 r1 r2 s0 s1 s2 gc
      go_wp2_with fail
      go_step3
      exact ⟨rfl, ⟨k + 1, _, _, _, _, _, _, _, _, _, _, _, _, _, _, _, _, _, _, _, _, _, _, _, _, _, _, _, _, _, _, _, _, _, _, _, _, _, _, _, _, _, _, _, _, _, _, _, _, _, _, _, _, _, _, _, _, _, _, _, _, _, _, _, _, _, rfl, by omega, HE3, HD2⟩, by unfold at6; simp [RowKit.intOf]; omega⟩
    ·have hcc : ¬ Ns.closes ts (Ns.opn ts k) k := fun h => h.2.1 (List.eq_nil_of_length_eq_zero (by omega))
     have HN : Hid (Ns.ni (Ns.opn ts (k + 1)) = Ns.ni (Ns.opn ts k)) := Lib.hid (by rw [Ns.opn_keep hO hcc])
     have HZ := Lib.hid (Ns.enZ_keep hlt hO hcc)
     have hni : Ns.ni (Ns.opn ts k) = [] := List.eq_nil_of_length_eq_zero (by omega)
     clear hcn hO hcc HP hol hnl hd0 hl0
     generalize Tk.tk ts k = u at *
     generalize Ns.ni (Ns.opn ts k) = ol at *
     subst hni
     simp only [List.length_nil]
     go_upto_region 13 with (go_at_call 81; ((with_reducible refine (CC.out _).mono ?_); rintro e w2 ⟨rfl, b2⟩; have HE2 := Lib.hid (HE1.out.next b2); clear b2))
     go_quiet (fail)
     go_wp2_with fail
     go_step3
     have HE3 : Hid (En (w.heap.size + 1) w.heap.size w (Ns.enZ ts (k + 1)) (.slice Av 0 cv) (Ns.ni (Ns.opn ts (k + 1))) (w2.drewN nq)) := Lib.hid (by rw [HN.out, <- HZ.out]; exact HE2.out.drewN _)
     exact ⟨rfl, ⟨k + 1, _, _, _, _, _, _, _, _, _, _, _, _, _, _, _, _, _, _, _, _, _, _, _, _, _, _, _, _, _, _, _, _, _, _, _, _, _, _, _, _, _, _, _, _, _, _, _, _, _, _, _, _, _, _, _, _, _, _, _, _, _, _, _, _, _, rfl, by omega, HE3, HD2⟩, by unfold at6; simp [RowKit.intOf]; omega⟩
  ·obtain rfl : k = ts.length := by omega
   have HF := Lib.hid (HE.out.told (Ns.enZ_len hk) (by omega))
   have HB := Lib.hid HE.out.bel
   have HZ := Lib.hid (Ns.enZ_end ts)
   go_wp2_with fail
   simp only [Exit.jump]
   go_ret2
   exact ⟨fun _ => ⟨_, rfl, by have := HF.out; rw [HZ.out] at this; exact this, HB.out⟩, fun ⟨j, h1, h2⟩ => by have := HD.out (j + 1) (by omega); omega⟩
namespace Ns
open Tk
def isK (ts : List Tok) (kd : Int) (p : Nat) : Bool := decide ((tk ts p).1 = kd)
theorem at_mem {pl : List Nat} {k : Nat} (h : k < pl.length) : pl.getD k 0 ∈ pl := by
 rw [List.getD_eq_getElem?_getD, List.getElem?_eq_getElem h]; exact List.getElem_mem h
end Ns
def Nu (n : Int) (w : World) (e : Ending) (w' : World) : Prop := e = .returned (.int .i64 n) /\ Below w.heap.size w w'
end Go.Proofs.Ytaofkaehhikfaaa
namespace Go.Proofs.Ytaofkaehhikfaaa
open Go.RowKit Vl
namespace Vl
structure Rw (w : World) (g : Nat) (us : List Tk.Tok) : Prop where
 cell : ∀ j, j < us.length -> w.cell? ⟨g, j * 3, none⟩ = some (.int .i64 (Tk.tk us j).1) /\ w.cell? ⟨g, j * 3 + 1, none⟩ = some (.string (Tk.tk us j).2.1) /\ w.cell? ⟨g, j * 3 + 2, none⟩ = some (.int .i64 (Tk.tk us j).2.2)
 free : ∀ o, w.frozen? ⟨g, o, none⟩ = false
theorem Rw.kept {w w1 : World} {g : Nat} {us : List Tk.Tok} (h : Rw w g us) (hk : w1.heap[g]? = w.heap[g]?) : Rw w1 g us := by
 refine ⟨fun j hj => ?_, fun o => ?_⟩
 ·obtain ⟨h0, h1, h2⟩ := h.cell j hj
  exact ⟨(World.cell?_of_block (a := ⟨g, _, none⟩) hk).trans h0, (World.cell?_of_block (a := ⟨g, _, none⟩) hk).trans h1, (World.cell?_of_block (a := ⟨g, _, none⟩) hk).trans h2⟩
 ·have := h.free o
  unfold World.frozen? at this ⊢
  simp only at this ⊢
  rw [hk]; exact this
theorem Rw.below {w w1 : World} {g : Nat} {us : List Tk.Tok} (h : Rw w g us) (hg : g < w.heap.size) (hb : Below w.heap.size w w1) : Rw w1 g us := h.kept (hb.block g hg)
theorem Rw.of_ow {E : TypeId} {w0 wr : World} {g n cap : Nat} {us : List Tk.Tok} (h : Ow E 3 w0 (.slice (some ⟨g, 0, none⟩) n cap) n (Tk.cells us) wr) : Rw wr g us := by
 refine ⟨fun j hj => ?_, fun o => h.own.frozenAt o⟩
 obtain ⟨h0, h1, h2⟩ := Tk.cells_at us j hj
 exact ⟨h.cells h0, h.cells h1, h.cells h2⟩
theorem Rw.ts {w : World} {g : Nat} {us : List Tk.Tok} (h : Rw w g us) (hg : g < w.heap.size) : Ts w w.heap.size (some ⟨g, 0, none⟩) us := fun _ => ⟨g, 0, rfl, hg, fun j hj => by
 obtain ⟨h0, h1, h2⟩ := h.cell j hj
 rw [Nat.zero_add]
 exact ⟨h0, h1, h2⟩⟩
theorem Rw.set {w : World} {g : Nat} {us : List Tk.Tok} (h : Rw w g us) {i : Nat} (hi : i < us.length) (t : Tk.Tok) :
 Rw (((w.setCell ⟨g, i * 3, none⟩ (.int .i64 t.1)).setCell ⟨g, i * 3 + 1, none⟩ (.string t.2.1)).setCell ⟨g, i * 3 + 2, none⟩ (.int .i64 t.2.2)) g (us.set i t) := by
 have htk : ∀ j, j < us.length -> Tk.tk (us.set i t) j = if j = i then t else Tk.tk us j := fun j hj => by
  rw [Tk.tk_eq (by simpa using hj), List.getElem_set, Tk.tk_eq hj]
  by_cases e : j = i
  ·rw [if_pos e.symm, if_pos e]
  ·rw [if_neg (fun c => e c.symm), if_neg e]
 obtain ⟨h0, h1, h2⟩ := h.cell i hi
 refine ⟨fun j hj => ?_, fun o => ?_⟩
 ·rw [List.length_set] at hj
  rw [htk j hj]
  by_cases e : j = i
  ·subst e
   rw [if_pos rfl]
   refine ⟨?_, ?_, ?_⟩ <;> simp [go_sem, h0, h1, h2]
  ·rw [if_neg e]
   obtain ⟨k0, k1, k2⟩ := h.cell j hj
   have far : ∀ (W : World) (a b : Nat) (v : Value), a ≠ b -> (W.setCell ⟨g, a, none⟩ v).cell? ⟨g, b, none⟩ = W.cell? ⟨g, b, none⟩ := fun W a b v hab => World.cell?_setCell_other W _ _ v (fun e => by injection e with _ e; exact hab e)
   refine ⟨?_, ?_, ?_⟩
   ·rw [far _ _ _ _ (by omega), far _ _ _ _ (by omega), far _ _ _ _ (by omega)]; exact k0
   ·rw [far _ _ _ _ (by omega), far _ _ _ _ (by omega), far _ _ _ _ (by omega)]; exact k1
   ·rw [far _ _ _ _ (by omega), far _ _ _ _ (by omega), far _ _ _ _ (by omega)]; exact k2
 ·have := h.free o
  simpa [go_sem] using this
theorem F_snoc (l : List Tk.Tok) (t : Tk.Tok) : F (l ++ [t]) = if t.1 = 1 then F l else F l ++ [t] := by
 rw [F_app]
 by_cases h : t.1 = 1
 ·rw [if_pos h, F_sp h]; show F l ++ [] = F l; simp
 ·rw [if_neg h, F_on h]; rfl
theorem take_set_len {us : List Tk.Tok} {i : Nat} (t : Tk.Tok) (h : i < us.length) : (us.set i t).take (i + 1) = us.take i ++ [t] := by
 rw [List.take_succ_eq_append_getElem (by simpa using h), List.take_set_of_le (Nat.le_refl i), List.getElem_set_self]
end Vl
theorem cisp_any (u : Tk.Tok) (w : World) :
 Calls Try.prog 61 #[.agg #[.int .i64 u.1, .string u.2.1, .int .i64 u.2.2]] w (Bo (decide (u.1 = 1)) w) := by
 obtain ⟨W0, hW⟩ : ∃ W0, W0 = w.alloc (.cells #[.int .i64 u.1, .string u.2.1, .int .i64 u.2.2] 36) := ⟨_, rfl⟩
 have hb0 : Below w.heap.size w W0 := by rw [hW]; exact (Below.refl _ _).alloc (Nat.le_refl _) _
 have k0 : W0.heap[w.heap.size]? = some (.cells #[.int .i64 u.1, .string u.2.1, .int .i64 u.2.2] 36 (0, 0)) := by rw [hW]; exact heap_alloc_new w _
 obtain ⟨p0, p1, p2⟩ := tok3_cells k0
 have HB0 := Lib.hid hb0
 have HW := Lib.hid hW.symm
 clear hb0 k0 hW
 by_cases hk : u.1 = 1
 ·have HV : Hid (decide (u.1 = 1) = true) := Lib.hid (decide_eq_true hk)
  rw [hk] at p0
  clear hk
  go_enter Try.func61, Try.ntmps61
  go_upto_region 1 with fail
  rw [HW.out]
  clear HW
  go_wp2_with fail
  go_ret
  exact ⟨by rw [HV.out]; rfl, HB0.out⟩
 ·have HV : Hid (decide (u.1 = 1) = false) := Lib.hid (decide_eq_false hk)
  have e : (u.1 == 1) = false := beq_false_of_ne hk
  clear hk
  go_enter Try.func61, Try.ntmps61
  go_upto_region 1 with fail
  rw [HW.out]
  clear HW
  go_wp2_with fail
  go_ret
  exact ⟨by rw [HV.out]; rfl, HB0.out⟩
def ClIs (ts : List Tk.Tok) (w : World) (e : Ending) (w' : World) : Prop := ∃ v, e = .returned v /\ Ow 36 3 w v ts.length (Tk.cells ts) w'
theorem cclone_any (ts : List Tk.Tok) (hm : ts.length <= 1000) (A : Option Addr) (cap : Nat) (w : World) (h : Ts w w.heap.size A ts) :
 Calls Try.prog 60 #[.slice A ts.length cap] w (ClIs ts w) := by
 have hq := fun W => Lib.run_eql_slice_nil (P := Try.prog) W 22 36 A ts.length cap 0 0 Try.underlying22
 cases A with
 | none =>
   have hn : ts = [] := by
    cases ts with
    | nil => rfl
    | cons t ts =>
      obtain ⟨b, off, e, _⟩ := h (by simp)
      cases e
   subst hn
   clear h hq
   have hq := fun W => Lib.run_eql_slice_nil (P := Try.prog) W 22 36 none 0 cap 0 0 Try.underlying22
   go_enter Try.func60, Try.ntmps60
   go_wp2_with fail
   go_ret
   exact ⟨_, rfl, Ow.start _ _ (Below.refl _ _)⟩
 | some a =>
   have HR := Lib.hid (Rdc.of_ts h)
   have HO := Lib.hid (ow_empty w 36 3)
   obtain ⟨i0, hi, hz0, hz1, hz2⟩ := info_parts Try.infoTok
   clear h
   have HR2 : Hid (Rdc (w.alloc (.cells #[] 36)) (some a) ts.length 3 (Tk.cells ts)) := Lib.hid (by
    refine ⟨HR.out.1, fun h0 => ?_⟩
    obtain ⟨b, off, e, hc⟩ := HR.out.2 h0
    exact ⟨b, off, e, fun j u hu => Lib.cell?_alloc_some _ (hc j u hu)⟩)
   go_enter Try.func60, Try.ntmps60
   go_wp2_with (at_builtin; refine app_all rfl _ _ 22 rfl i0 _ 32 Try.underlying22 hi hz0 hz1 hz2 rfl (by decide) rfl HO.out (some a) ts.length cap (Tk.cells ts) rfl HR2.out (cells_ok ts) (by unfold maxLen; omega) (by omega) ?_; intro v' w3 H3; have HO3 := Lib.hid H3; clear H3)
   go_ret
   have h3 := HO3.out
   rw [Nat.zero_add, List.nil_append] at h3
   exact ⟨_, rfl, h3⟩
end Go.Proofs.Ytaofkaehhikfaaa
namespace Go.Proofs.Ytaofkaehhikfaaa
open Go.RowKit Vl
abbrev isSpF : Value := .func (Fn.func 61) #[] #[]
def IxIs (ts : List Tk.Tok) (w : World) (e : Ending) (w' : World) : Prop :=
 ∃ n : Int, e = .returned (.int .i64 n) /\ Below w.heap.size w w' /\ ((n = -1 /\ F ts = ts) ∨ ∃ k : Nat, n = k /\ k < ts.length /\ (Tk.tk ts k).1 = 1 /\ F (ts.take k) = ts.take k)
theorem cindex_any (ts : List Tk.Tok) (hm : ts.length <= 1000) (A : Option Addr) (cap : Nat) (w : World) (h : Ts w w.heap.size A ts) :
 Calls Try.prog 80 #[.slice A ts.length cap, isSpF] w (IxIs ts w) := by
 have H := Lib.hid h
 clear h
 go_enter Try.func80, Try.ntmps80
 go_wp2_with fail
 go_loopw [8] (fun v8 wr => ∃ k : Nat, k <= ts.length /\ v8 = .int .i64 k /\ Hid (F (ts.take k) = ts.take k) /\ Hid (Below w.heap.size w wr)) (fun v8 _ => ts.length - (RowKit.intOf v8).toNat)
 case atStart => exact ⟨0, Nat.zero_le _, rfl, Lib.hid rfl, Lib.hid (Below.refl _ _)⟩
 case round =>
  obtain ⟨k, hk, rfl, HF, HB⟩ := hrel
  by_cases hlt : k < ts.length
  ·obtain ⟨b, off, rfl, hb, hp⟩ := H.out.next HB.out (by omega)
   obtain ⟨q0, q1, q2⟩ := hp k hlt
   have HTK : Hid (ts.take (k + 1) = ts.take k ++ [Tk.tk ts k]) := Lib.hid (by rw [List.take_succ_eq_append_getElem hlt, Tk.tk_eq hlt])
   have CS : Hid (∀ W, Calls Try.prog 61 #[.agg #[.int .i64 (Tk.tk ts k).1, .string (Tk.tk ts k).2.1, .int .i64 (Tk.tk ts k).2.2]] W (Bo (decide ((Tk.tk ts k).1 = 1)) W)) := Lib.hid fun W => cisp_any (Tk.tk ts k) W
   clear hp
   by_cases h1 : (Tk.tk ts k).1 = 1
   ·have HV : Hid ((Tk.tk ts k).1 = 1) := Lib.hid h1
    rw [decide_eq_true h1] at CS
    clear h1 HTK
    generalize hu : Tk.tk ts k = u at q0 q1 q2 CS
    have HU := Lib.hid hu
    clear hu
    go_wp2_with (go_at_call 61; ((with_reducible refine (CS.out _).mono ?_); rintro e w2 ⟨rfl, b2⟩; have HB2 := Lib.hid (below_next HB.out b2); clear b2))
    go_ret
    exact ⟨k, rfl, HB2.out, .inr ⟨k, rfl, hlt, HV.out, HF.out⟩⟩
   ·have HN : Hid (F (ts.take (k + 1)) = ts.take (k + 1)) := Lib.hid (by rw [HTK.out, F_snoc, if_neg h1, HF.out])
    rw [decide_eq_false h1] at CS
    clear h1 HTK
    generalize Tk.tk ts k = u at *
    go_wp2_with (go_at_call 61; ((with_reducible refine (CS.out _).mono ?_); rintro e w2 ⟨rfl, b2⟩; have HB2 := Lib.hid (below_next HB.out b2); clear b2))
    go_roundw
    case rel => exact ⟨k + 1, by omega, by go_num, HN, HB2⟩
    case measure => simp [RowKit.intOf]; omega
  ·obtain rfl : k = ts.length := by omega
   go_wp2_with fail
   go_ret
   have := HF.out
   rw [List.take_length] at this
   exact ⟨-1, rfl, HB.out, .inl ⟨rfl, this⟩⟩
def DelIs (B g : Nat) (ts : List Tk.Tok) (w : World) (e : Ending) (w' : World) : Prop :=
 ∃ cap, e = .returned (.slice (some ⟨g, 0, none⟩) (F ts).length cap) /\ (F ts).length <= cap /\ Rw w' g (F ts) /\ w.heap.size <= w'.heap.size /\ ∀ a : World, Below B a w -> Below B a w'
theorem take_lt {ts : List Tk.Tok} {k : Nat} (hlt : k < ts.length) (h1 : (Tk.tk ts k).1 = 1) (hF : F (ts.take k) = ts.take k) : F (ts.take (k + 1)) = ts.take k /\ (F (ts.take (k + 1))).length = k := by
 have e : F (ts.take (k + 1)) = ts.take k := by rw [List.take_succ_eq_append_getElem hlt, F_snoc, if_pos (by rw [Tk.tk_eq hlt] at h1; exact h1), hF]
 exact ⟨e, by rw [e, List.length_take]; omega⟩
theorem setCells_size (b : Nat) : ∀ (vs : List Value) (o : Nat) (w : World), (w.setCells b o vs).heap.size = w.heap.size
 | [], _, _ => rfl
 | v :: vs, o, w => by
   rw [World.setCells, setCells_size b vs]
   simp [World.setCell]
theorem below_setCells_own {B b : Nat} {a : World} (hb : B <= b) : ∀ (vs : List Value) (o : Nat) (w : World), Below B a w -> Below B a (w.setCells b o vs)
 | [], _, _, h => h
 | v :: vs, o, w, h => by
   rw [World.setCells]
   exact below_setCells_own hb vs (o + 1) _ (h.setCell (p := ⟨b, o, none⟩) hb v)
theorem run_clear_toks (w : World) (ty : TypeId) (g o n c : Nat) (hn : 0 < n) (hc : ∀ j, j < n * 3 -> (w.cell? ⟨g, o + j, none⟩).isSome = true) (hf : ∀ j, j < n * 3 -> w.frozen? ⟨g, o + j, none⟩ = false) :
 (Builtin.clear_ #[22] ty #[.slice (some ⟨g, o, none⟩) n c]).run Try.prog w = .ok (.tuple #[]) (w.setCells g o (Builtin.zeroCells zTok.cells n).toList) := by
 have hl : (Builtin.zeroCells zTok.cells n).toList.length = n * 3 := by simp [Builtin.zeroCells, Value.cells]
 have h1 : ∀ v ∈ (Builtin.zeroCells zTok.cells n).toList, v.oneCell' = true := fun v hv => by
  simp only [Builtin.zeroCells, Array.mem_toList_iff, Array.mem_map] at hv
  obtain ⟨i, _, rfl⟩ := hv
  have : i % 3 = 0 ∨ i % 3 = 1 ∨ i % 3 = 2 := by omega
  rcases this with q | q | q <;> simp [Value.cells, q, Value.oneCell']
 have hst := run_storeCells_cells (P := Try.prog) g o (Builtin.zeroCells zTok.cells n).toList 0 w (by rw [hl]; simpa using hc) (by rw [hl]; simpa using hf) h1
 simp only [Nat.add_zero] at hst
 obtain ⟨m, rfl⟩ : ∃ m, n = m + 1 := ⟨n - 1, by omega⟩
 simp [Builtin.clear_, run_underlying Try.underlying22, hst]
theorem cdelete_any (ts : List Tk.Tok) (hm : ts.length <= 1000) (B g cap : Nat) (hcap : ts.length <= cap) (w : World) (hB : B <= g) (hg : g < w.heap.size) (h : Rw w g ts) :
 Calls Try.prog 59 #[.slice (some ⟨g, 0, none⟩) ts.length cap, isSpF] w (DelIs B g ts w) := by
 have CX : Hid (Calls Try.prog 80 #[.slice (some ⟨g, 0, none⟩) ts.length cap, isSpF] w (IxIs ts w)) := Lib.hid (cindex_any ts hm _ cap w (h.ts hg))
 have HR := Lib.hid h
 clear h
 go_enter Try.func59, Try.ntmps59
 go_upto_region 2 with (go_at_call 80; ((with_reducible refine (CX.out).mono ?_); rintro e w1 ⟨n, rfl, b1, hx⟩; have HB1 := Lib.hid b1; have HX := Lib.hid hx; clear b1 hx))
 clear CX
 have hg1 : g < w1.heap.size := Nat.lt_of_lt_of_le hg HB1.out.size
 have HR1 := Lib.hid (HR.out.below hg HB1.out)
 rcases HX.out with ⟨rfl, hF⟩ | ⟨k, rfl, hk, h1, hF⟩
 ·have HF := Lib.hid hF
  clear HX hF
  go_wp2_with fail
  go_ret
  refine ⟨cap, by rw [HF.out]; rfl, by rw [HF.out]; exact hcap, by rw [HF.out]; exact HR1.out, HB1.out.size, fun a ha => ha.trans (HB1.out.mono (by omega))⟩
 ·have en : ((k : Int) == -1) = false := beq_false_of_ne (by omega)
  have HT := Lib.hid (take_lt hk h1 hF)
  clear HX h1 hF
  go_wp2_with fail
  go_loopw [5, 6, 7] (fun v5 v6 v7 wr => ∃ (j : Nat) (us : List Tk.Tok), j <= ts.length /\ v6 = .int .i64 j /\ v5 = .int .i64 ((F (ts.take j)).length : Nat) /\ (F (ts.take j)).length < j /\ us.length = ts.length /\ Hid (us.take (F (ts.take j)).length = F (ts.take j)) /\ Hid (us.drop j = ts.drop j) /\ Hid (Rw wr g us) /\ w1.heap.size <= wr.heap.size /\ Hid (∀ a : World, Below B a w1 -> Below B a wr)) (fun _ v6 _ _ => ts.length - (RowKit.intOf v6).toNat)
  case atStart =>
   refine ⟨k + 1, ts, hk, by go_num, by rw [HT.out.2], by rw [HT.out.2]; omega, rfl, Lib.hid ?_, Lib.hid rfl, HR1, Nat.le_refl _, Lib.hid fun a ha => ha⟩
   rw [HT.out.2, HT.out.1]
  case round =>
   obtain ⟨j, us, hj, rfl, rfl, hij, hul, HU, HD, HRr, hsz, HBr⟩ := hrel
   by_cases hlt : j < ts.length
   ·have htj : Tk.tk us j = Tk.tk ts j := by
     have h0 := HD.out
     rw [List.drop_eq_getElem_cons (by omega), List.drop_eq_getElem_cons hlt] at h0
     rw [Tk.tk_eq (by omega), Tk.tk_eq hlt]
     injection h0
    have HDN : Hid (us.drop (j + 1) = ts.drop (j + 1)) := Lib.hid (by
     have := congrArg List.tail HD.out
     simpa using this)
    obtain ⟨q0, q1, q2⟩ := HRr.out.cell j (by omega)
    rw [htj] at q0 q1 q2
    have HFN : Hid (F (ts.take (j + 1)) = if (Tk.tk ts j).1 = 1 then F (ts.take j) else F (ts.take j) ++ [Tk.tk ts j]) := Lib.hid (by rw [List.take_succ_eq_append_getElem hlt, F_snoc, Tk.tk_eq hlt])
    have CS : Hid (∀ W, Calls Try.prog 61 #[.agg #[.int .i64 (Tk.tk ts j).1, .string (Tk.tk ts j).2.1, .int .i64 (Tk.tk ts j).2.2]] W (Bo (decide ((Tk.tk ts j).1 = 1)) W)) := Lib.hid fun W => cisp_any (Tk.tk ts j) W
    have hgr : g < wr.heap.size := by omega
    clear htj HD
    by_cases h1 : (Tk.tk ts j).1 = 1
    ·rw [if_pos h1] at HFN
     rw [decide_eq_true h1] at CS
     clear h1
     generalize Tk.tk ts j = u at *
     obtain ⟨kd, tx, num⟩ := u
     simp only at q0 q1 q2 CS
     go_upto_region 8 with fail
     have k3 := heap_alloc_new wr (.cells #[.int .i64 kd, .string tx, .int .i64 num] 36)
     have b3 := (Below.refl wr.heap.size wr).alloc (Nat.le_refl _) (.cells #[.int .i64 kd, .string tx, .int .i64 num] 36)
     generalize wr.alloc (.cells #[.int .i64 kd, .string tx, .int .i64 num] 36) = w3 at k3 b3 ⊢
     obtain ⟨y0, y1, y2⟩ := tok3_cells k3
     have HB3 := Lib.hid b3
     clear k3 b3 q0 q1 q2
     go_wp2_with (go_at_call 61; ((with_reducible refine (CS.out _).mono ?_); rintro e w4 ⟨rfl, b4⟩; have HB4 := Lib.hid (below_next HB3.out b4); clear b4))
     go_roundw
     case rel => exact ⟨j + 1, us, by omega, by go_num, by rw [HFN.out], by rw [HFN.out]; omega, hul, by rw [HFN.out]; exact HU, HDN, Lib.hid (HRr.out.below hgr HB4.out), Nat.le_trans hsz HB4.out.size, Lib.hid fun a ha => (HBr.out a ha).trans (HB4.out.mono (by omega))⟩
     case measure => simp [RowKit.intOf]; omega
    ·rw [if_neg h1] at HFN
     rw [decide_eq_false h1] at CS
     have HFL : Hid ((F (ts.take (j + 1))).length = (F (ts.take j)).length + 1) := Lib.hid (by rw [HFN.out]; simp)
     clear h1
     generalize hu : Tk.tk ts j = u at *
     clear hu
     generalize hi : (F (ts.take j)).length = i at *
     have HI := Lib.hid hi
     clear hi
     have hiu : i < us.length := by omega
     obtain ⟨kd, tx, num⟩ := u
     simp only at q0 q1 q2 CS
     go_upto_region 8 with fail
     have k3 := heap_alloc_new wr (.cells #[.int .i64 kd, .string tx, .int .i64 num] 36)
     have b3 := (Below.refl wr.heap.size wr).alloc (Nat.le_refl _) (.cells #[.int .i64 kd, .string tx, .int .i64 num] 36)
     generalize wr.alloc (.cells #[.int .i64 kd, .string tx, .int .i64 num] 36) = w3 at k3 b3 ⊢
     obtain ⟨y0, y1, y2⟩ := tok3_cells k3
     have HB3 := Lib.hid b3
     have hg3 : wr.heap.size < w3.heap.size := (Array.getElem?_eq_some_iff.1 k3).1
     clear k3 b3 q0 q1 q2
     go_upto_region 9 with (go_at_call 61; ((with_reducible refine (CS.out _).mono ?_); rintro e w4 ⟨rfl, b4⟩; have HB4 := Lib.hid (below_next HB3.out b4); have z0 := (b4.cell (p := ⟨wr.heap.size, 0, none⟩) hg3).trans y0; have z1 := (b4.cell (p := ⟨wr.heap.size, 1, none⟩) hg3).trans y1; have z2 := (b4.cell (p := ⟨wr.heap.size, 2, none⟩) hg3).trans y2; clear b4))
     have HR4 := Lib.hid (HRr.out.below hgr HB4.out)
     obtain ⟨x0, x1, x2⟩ := HR4.out.cell i hiu
     have xf := HR4.out.free
     go_upto_region 10 with fail
     have r5 := HR4.out.set hiu (kd, tx, num)
     have b5 : ∀ a : World, Below B a w1 -> Below B a (((w4.setCell ⟨g, i * 3, none⟩ (.int .i64 kd)).setCell ⟨g, i * 3 + 1, none⟩ (.string tx)).setCell ⟨g, i * 3 + 2, none⟩ (.int .i64 num)) := fun a ha => ((((HBr.out a ha).trans (HB4.out.mono (by omega))).setCell (p := ⟨g, i * 3, none⟩) hB _).setCell (p := ⟨g, i * 3 + 1, none⟩) hB _).setCell (p := ⟨g, i * 3 + 2, none⟩) hB _
     have s5 : w1.heap.size <= (((w4.setCell ⟨g, i * 3, none⟩ (.int .i64 kd)).setCell ⟨g, i * 3 + 1, none⟩ (.string tx)).setCell ⟨g, i * 3 + 2, none⟩ (.int .i64 num)).heap.size := by have := HB4.out.size; simp [World.setCell]; omega
     generalize (((w4.setCell ⟨g, i * 3, none⟩ (.int .i64 kd)).setCell ⟨g, i * 3 + 1, none⟩ (.string tx)).setCell ⟨g, i * 3 + 2, none⟩ (.int .i64 num)) = w5 at r5 b5 s5 ⊢
     have HR5 := Lib.hid r5
     have HB5 := Lib.hid b5
     clear x0 x1 x2 xf r5 b5
     go_wp2_with fail
     go_roundw
     case rel => exact ⟨j + 1, us.set i (kd, tx, num), by omega, by go_num, (by rw [HFL.out]; go_num), (by rw [HFL.out]; omega), (by rw [List.length_set]; exact hul), Lib.hid (by rw [HFL.out, take_set_len _ hiu, HU.out, HFN.out]), Lib.hid (by rw [List.drop_set_of_lt (by omega)]; exact HDN.out), HR5, s5, HB5⟩
     case measure => simp [RowKit.intOf]; omega
   ·obtain rfl : j = ts.length := by omega
    have HU2 := HU.out
    rw [List.take_length] at HU2 hij
    have HU3 := Lib.hid HU2
    have HL : Hid (F (ts.take ts.length) = F ts) := Lib.hid (by rw [List.take_length])
    rw [HL.out]
    generalize hi : (F ts).length = i at *
    have HI := Lib.hid hi
    clear hi HU HD HU2
    have hcl := fun ty => run_clear_toks wr ty g (i * 3) (ts.length - i) (cap - i) (by omega) (fun o ho => by
     obtain ⟨h0, h1, h2⟩ := HRr.out.cell (i + o / 3) (by omega)
     rcases (show i * 3 + o = (i + o / 3) * 3 ∨ i * 3 + o = (i + o / 3) * 3 + 1 ∨ i * 3 + o = (i + o / 3) * 3 + 2 by omega) with q | q | q
     ·rw [q, h0]; rfl
     ·rw [q, h1]; rfl
     ·rw [q, h2]; rfl) (fun o _ => HRr.out.free _)
    go_wp2_with fail
    go_ret
    have hR : Rw (wr.setCells g (i * 3) (Builtin.zeroCells zTok.cells (ts.length - i)).toList) g (F ts) := by
     refine ⟨fun j hj => ?_, fun o => ?_⟩
     ·have hj2 : j < i := by rw [<- HI.out]; exact hj
      obtain ⟨h0, h1, h2⟩ := HRr.out.cell j (by omega)
      have htk : Tk.tk us j = Tk.tk (F ts) j := by
       rw [<- HU3.out]
       unfold Tk.tk
       rw [List.getD_eq_getElem?_getD, List.getD_eq_getElem?_getD, List.getElem?_take_of_lt hj2]
      rw [htk] at h0 h1 h2
      have far : ∀ o, o < i * 3 -> (wr.setCells g (i * 3) (Builtin.zeroCells zTok.cells (ts.length - i)).toList).cell? ⟨g, o, none⟩ = wr.cell? ⟨g, o, none⟩ := fun o ho => World.cell?_setCells_out g _ _ _ _ (fun _ _ => .inl ho)
      exact ⟨(far _ (by omega)).trans h0, (far _ (by omega)).trans h1, (far _ (by omega)).trans h2⟩
     ·exact (World.frozen?_setCells g _ _ _ _).trans (HRr.out.free o)
    refine ⟨cap, by rw [HI.out]; rfl, by rw [HI.out]; omega, hR, ?_, fun a ha => ?_⟩
    ·rw [setCells_size]
     have := HB1.out.size
     omega
    ·exact below_setCells_own hB _ _ _ (HBr.out a (ha.trans (HB1.out.mono (by omega))))
end Go.Proofs.Ytaofkaehhikfaaa
namespace Go.Proofs.Ytaofkaehhikfaaa
open Go.RowKit Vl
def RdIs (L : List Tk.Tok) (w : World) (e : Ending) (w' : World) : Prop :=
 ∃ (A C : Option Addr) (c d : Nat), e = .returned (.agg #[.slice A L.length c, .slice C L.length d]) /\ L.length <= c /\ L.length <= d /\ Ts w' w'.heap.size A L /\ Bs w' w'.heap.size .i64 C (Ns.ends L) /\ Below w.heap.size w w'
def HiB (lo : Nat) (A : Option Addr) (n : Nat) : Prop := 0 < n -> ∀ b off, A = some ⟨b, off, none⟩ -> lo <= b
theorem Ts.set_low {w : World} {B g i : Nat} {A : Option Addr} {ts : List Tk.Tok} {v : Value} (h : Ts w B A ts) (hA : HiB (g + 1) A ts.length) : Ts (w.setCell ⟨g, i, none⟩ v) B A ts := fun hl => by
 obtain ⟨b, off, e, hb, hc⟩ := h hl
 have hg := hA hl b off e
 have far : ∀ o, (w.setCell ⟨g, i, none⟩ v).cell? ⟨b, o, none⟩ = w.cell? ⟨b, o, none⟩ := fun o => World.cell?_setCell_other w _ _ v (fun e => by injection e with e; omega)
 refine ⟨b, off, e, hb, fun j hj => ?_⟩
 rw [far, far, far]
 exact hc j hj
theorem Bs.set_low {w : World} {B g i : Nat} {A : Option Addr} {k : IntKind} {l : List Int} {v : Value} (h : Bs w B k A l) (hA : HiB (g + 1) A l.length) : Bs (w.setCell ⟨g, i, none⟩ v) B k A l := fun hl => by
 obtain ⟨b, off, e, hb, hc⟩ := h hl
 have hg := hA hl b off e
 refine ⟨b, off, e, hb, fun j hj => ?_⟩
 rw [World.cell?_setCell_other w _ _ v (fun e => by injection e with e; omega)]
 exact hc j hj
def EndsN (es : List Int) (w : World) (e : Ending) (w' : World) : Prop :=
 ∃ (A : Option Addr) (cap : Nat), e = .returned (.tuple #[.slice A es.length cap, .int .i64 0]) /\ es.length <= cap /\ Bs w' w'.heap.size .i64 A es /\ Below w.heap.size w w' /\ HiB w.heap.size A es.length
theorem ends_new {ts : List Tk.Tok} {w : World} {e : Ending} {w' : World} (h : EndsOk ts w e w') : EndsN (Ns.ends ts) w e w' := by
 obtain ⟨v, rfl, ho, hb⟩ := h
 obtain ⟨A, cap, rfl, hc, hB⟩ := own_form ho
 refine ⟨A, cap, rfl, hc, hB, hb, fun h0 b off hA => ?_⟩
 obtain ⟨g, c, hv, hg, _⟩ := ho.form h0
 injection hv with hv
 rw [hv] at hA
 injection hA with hA
 injection hA with hA
 omega
def Del (ts : List Tk.Tok) (w0 : World) (e : Ending) (w' : World) : Prop :=
 ∃ (A : Option Addr) (c : Nat), e = .returned (.slice A (F ts).length c) /\ (F ts).length <= c /\ Ts w' w'.heap.size A (F ts) /\ Below w0.heap.size w0 w' /\ HiB w0.heap.size A (F ts).length
theorem cdel_nil (c : Nat) (w : World) : Calls Try.prog 59 #[.slice none 0 c, isSpF] w (fun e w' => e = .returned (.slice none 0 c) /\ Below w.heap.size w w') := by
 have CX : Hid (Calls Try.prog 80 #[.slice none 0 c, isSpF] w (fun e w' => e = .returned (.int .i64 (-1)) /\ Below w.heap.size w w')) := Lib.hid ((cindex_any [] (by simp) none c w (fun h => by simp at h)).mono fun e w' ⟨n, he, hb, hx⟩ => by
  rcases hx with ⟨rfl, _⟩ | ⟨k, _, hk, _⟩
  ·exact ⟨he, hb⟩
  ·simp at hk)
 go_enter Try.func59, Try.ntmps59
 go_wp2_with (go_at_call 80; ((with_reducible refine (CX.out).mono ?_); rintro e w1 ⟨rfl, b1⟩; have HB1 := Lib.hid b1; clear b1))
 go_ret
 exact ⟨rfl, HB1.out⟩
theorem cdel_any (ts : List Tk.Tok) (hm : ts.length <= 1000) (w0 W : World) (v : Value) (h : Ow 36 3 w0 v ts.length (Tk.cells ts) W) :
 Calls Try.prog 59 #[v, isSpF] W (Del ts w0) := by
 rcases h.own.2 with ⟨rfl, h0⟩ | ⟨g, cap, cur, rfl, hg, hh, hc, _⟩
 ·have hn : ts = [] := List.eq_nil_of_length_eq_zero h0
  subst hn
  exact (cdel_nil 0 W).mono fun e w' ⟨he, hb⟩ => ⟨none, 0, he, Nat.le_refl _, fun h => by simp [F] at h, below_next h.bel (hb.mono (Nat.le_refl _)), fun h => by simp [F] at h⟩
 ·have hlt : g < W.heap.size := (Array.getElem?_eq_some_iff.1 hh).1
  exact (cdelete_any ts hm w0.heap.size g cap hc W hg hlt (Rw.of_ow h)).mono fun e w' ⟨c, he, hc2, hR, hsz, hb⟩ => ⟨_, c, he, hc2, hR.ts (by omega), hb w0 h.bel, fun _ b off hA => by injection hA with hA; injection hA with hA; omega⟩
theorem cread_any (v : List Tk.Tok) (hm : v.length <= 1000) (A : Option Addr) (cap : Nat) (w : World) (h : Ts w w.heap.size A v) :
 Calls Try.prog 34 #[.slice A v.length cap] w (RdIs (rd v) w) := by
 obtain ⟨W0, hW⟩ : ∃ W0, W0 = w.alloc (.cells #[.slice none 0 0, .slice none 0 0] 59) := ⟨_, rfl⟩
 have hb0 : Below w.heap.size w W0 := by rw [hW]; exact (Below.refl _ _).alloc (Nat.le_refl _) _
 have k0 : W0.heap[w.heap.size]? = some (.cells #[.slice none 0 0, .slice none 0 0] 59 (0, 0)) := by rw [hW]; exact heap_alloc_new w _
 have HB0 := Lib.hid hb0
 have HK0 := Lib.hid k0
 have HW := Lib.hid hW.symm
 have HWz := Lib.hid hW.symm
 have CC : Hid (Calls Try.prog 60 #[.slice A v.length cap] W0 (ClIs v W0)) := Lib.hid (cclone_any v hm A cap W0 (h.next hb0))
 have CD : Hid (∀ W u, Ow 36 3 W0 u v.length (Tk.cells v) W -> Calls Try.prog 59 #[u, isSpF] W (Del v W0)) := Lib.hid fun W u hO => cdel_any v hm W0 W u hO
 have CE : Hid (∀ W C c, (F v).length <= c -> Ts W W.heap.size C (F v) -> Calls Try.prog 62 #[.slice C (F v).length c] W (EndsIs (F v) W)) := Lib.hid fun W C c hc hT => nends_code (F v) (by have := F_len v; omega) C c W hT
 clear hb0 k0 hW h
 by_cases hd : Ns.deep (F v)
 ·have hv : rd v = [] := by unfold rd; rw [if_pos hd]
  rw [hv]
  have CE2 : Hid (∀ W C c, (F v).length <= c -> Ts W W.heap.size C (F v) -> Calls Try.prog 62 #[.slice C (F v).length c] W (EndsBad W)) := Lib.hid fun W C c hc hT => (CE.out W C c hc hT).mono fun e w' h => h.2 hd
  clear CE hd hv
  go_enter Try.func34, Try.ntmps34
  go_upto_region 1 with fail
  rw [HW.out]
  clear HW
  go_wp2_with (first | (go_at_call 60; ((with_reducible refine (CC.out).mono ?_); rintro e w1 ⟨u, rfl, h1⟩; have HO := Lib.hid h1; clear h1)) | (go_at_call 59; ((with_reducible refine (CD.out _ _ HO.out).mono ?_); rintro e w2 ⟨A2, c2, rfl, hc2, T2, b2, h2⟩; have HB2 := Lib.hid b2; have HT2 := Lib.hid T2; clear b2 T2)) | (go_at_call 62; ((with_reducible refine (CE2.out _ _ _ hc2 HT2.out).mono ?_); rintro e w3 ⟨rfl, b3⟩; have HB3 := Lib.hid (below_next HB2.out b3); have HK3 := below_block HB3.out HK0.out; have q0 : w3.cell? ⟨w.heap.size, 0, none⟩ = some (.slice none 0 0) := (by simp [World.cell?, HK3]); have q1 : w3.cell? ⟨w.heap.size, 1, none⟩ = some (.slice none 0 0) := (by simp [World.cell?, HK3]); have qf : ∀ o, w3.frozen? ⟨w.heap.size, o, none⟩ = false := fun o => (by simp [World.frozen?, HK3]); clear b3 HK3)))
  exact bodyPost_ret (v := .agg #[.slice none 0 0, .slice none 0 0]) (by simp [results, Try.results34, go_sem, q0, q1]) rfl ⟨none, none, 0, 0, rfl, Nat.le_refl _, Nat.le_refl _, fun h => by simp at h, fun h => by simp [Ns.ends_len] at h, ((below_next HB0.out HB3.out).setCell (p := ⟨w.heap.size, 0, none⟩) (Nat.le_refl _) _).setCell (p := ⟨w.heap.size, 1, none⟩) (Nat.le_refl _) _⟩
 ·have hv : rd v = F v := by unfold rd; rw [if_neg hd]
  rw [hv]
  have CE2 : Hid (∀ W C c, (F v).length <= c -> Ts W W.heap.size C (F v) -> Calls Try.prog 62 #[.slice C (F v).length c] W (EndsN (Ns.ends (F v)) W)) := Lib.hid fun W C c hc hT => (CE.out W C c hc hT).mono fun e w' h => ends_new (h.1 hd)
  have HEL := Lib.hid (Ns.ends_len (F v))
  clear CE hd hv
  go_enter Try.func34, Try.ntmps34
  go_upto_region 1 with fail
  rw [HW.out]
  clear HW
  go_wp2_with (first | (go_at_call 60; ((with_reducible refine (CC.out).mono ?_); rintro e w1 ⟨u, rfl, h1⟩; have HO := Lib.hid h1; clear h1)) | (go_at_call 59; ((with_reducible refine (CD.out _ _ HO.out).mono ?_); rintro e w2 ⟨A2, c2, rfl, hc2, T2, b2, h2⟩; have HB2 := Lib.hid b2; have HT2 := Lib.hid T2; clear b2 T2)) | (go_at_call 62; ((with_reducible refine (CE2.out _ _ _ hc2 HT2.out).mono ?_); rintro e w3 ⟨C3, c3, rfl, hc3, B3, b3, h3⟩; have HB3 := Lib.hid (below_next HB2.out b3); have HT3 := Lib.hid (HT2.out.next b3); have HS3 := Lib.hid B3; have HK3 := below_block HB3.out HK0.out; have q0 : w3.cell? ⟨w.heap.size, 0, none⟩ = some (.slice none 0 0) := (by simp [World.cell?, HK3]); have q1 : w3.cell? ⟨w.heap.size, 1, none⟩ = some (.slice none 0 0) := (by simp [World.cell?, HK3]); have qf : ∀ o, w3.frozen? ⟨w.heap.size, o, none⟩ = false := fun o => (by simp [World.frozen?, HK3]); clear b3 B3 HK3)))
  have hz0 : W0.heap.size = w.heap.size + 1 := by
   have := congrArg (fun W => W.heap.size) HWz.out
   simpa using this.symm
  have hz2 : w.heap.size + 1 <= w2.heap.size := by have := HB2.out.size; omega
  have hA : HiB (w.heap.size + 1) A2 (F v).length := fun h0 b off e => by have := h2 h0 b off e; omega
  have hC : HiB (w.heap.size + 1) C3 (Ns.ends (F v)).length := fun h0 b off e => by have := h3 h0 b off e; omega
  have hsz : ((w3.setCell ⟨w.heap.size, 0, none⟩ (.slice A2 (F v).length c2)).setCell ⟨w.heap.size, 1, none⟩ (.slice C3 (Ns.ends (F v)).length c3)).heap.size = w3.heap.size := by simp [World.setCell]
  exact bodyPost_ret (v := .agg #[.slice A2 (F v).length c2, .slice C3 (Ns.ends (F v)).length c3]) (by simp [results, Try.results34, go_sem, q0, q1]) rfl ⟨A2, C3, c2, c3, by rw [HEL.out], hc2, by rw [<- HEL.out]; exact hc3, by rw [hsz]; exact (HT3.out.set_low hA).set_low hA, by rw [hsz]; exact (HS3.out.set_low hC).set_low hC, ((below_next HB0.out HB3.out).setCell (p := ⟨w.heap.size, 0, none⟩) (Nat.le_refl _) _).setCell (p := ⟨w.heap.size, 1, none⟩) (Nat.le_refl _) _⟩
end Go.Proofs.Ytaofkaehhikfaaa
namespace Go.Proofs.Ytaofkaehhikfaaa
open Go.RowKit
def LowAt (w : World) (s : ByteArray) (v10 : Value) (wr : World) : Prop :=
 ∃ k : Nat, k <= s.size /\ v10 = .int .i64 k /\ Hid (∀ j, j < s.size -> wr.cell? ⟨w.heap.size, j, none⟩ = some (.int .u8 (Ru.g (Ru.part (Ru.bs s) k) j))) /\ Hid (∀ j, j < s.size -> wr.frozen? ⟨w.heap.size, j, none⟩ = false) /\ Hid (Below w.heap.size w wr)
theorem lower_any (s : ByteArray) (w : World) (hm : s.size <= 90000) :
 Calls Try.prog 47 #[.string s] w fun e w' => e = .returned (.string (Ru.lowS s)) /\ Below w.heap.size w w' := by
 obtain ⟨C, w0, hconv, hc, hz, hb, hC⟩ := bytes_of s w
 have HC := Lib.hid hc
 have HZ := Lib.hid hz
 have HB := Lib.hid hb
 clear hc hz hb
 go_enter Try.func47, Try.ntmps47
 go_wp2_with fail
 clear hconv
 go_loopw [10] (fun v10 wr => LowAt w s v10 wr) (fun v10 _ => s.size - (RowKit.intOf v10).toNat)
 case atStart => exact ⟨0, Nat.zero_le _, rfl, Lib.hid (fun j hj => by rw [Ru.part_g _ _ _ (Nat.zero_le _), if_neg (by omega)]; exact HC.out j hj), HZ, HB⟩
 case round =>
  obtain ⟨k, hk, rfl, hcs, hzs, hbel⟩ := hrel
  have hl : Hid ((Ru.bs s).length = s.size) := Lib.hid (Ru.bs_len s)
  clear HC HZ HB
  by_cases hlt : k < s.size
  ·have hcell := hcs.out k hlt
   have hfz := hzs.out k hlt
   rw [Ru.part_g _ _ _ (by rw [hl.out]; omega), if_neg (by omega)] at hcell
   obtain ⟨y1, y2⟩ := (Ru.bs_by s).at_ k
   have hnext : Hid (∀ j, j < s.size -> Ru.g (Ru.part (Ru.bs s) (k + 1)) j = if j = k then Ru.lowI (Ru.g (Ru.bs s) k) else Ru.g (Ru.part (Ru.bs s) k) j) := Lib.hid fun j hj => by
    rw [Ru.part_g _ _ _ (by rw [hl.out]; omega), Ru.part_g _ _ _ (by rw [hl.out]; omega)]
    by_cases e : j = k
    ·subst e; rw [if_pos (by omega), if_pos rfl]
    ·rw [if_neg e]
     by_cases h2 : j < k
     ·rw [if_pos (by omega), if_pos h2]
     ·rw [if_neg (by omega), if_neg h2]
   generalize Ru.g (Ru.bs s) k = x at *
   by_cases u1 : 65 <= x
   ·by_cases u2 : x <= 90
    ·have e32 : Hid (x - 65 + 97 = Ru.lowI x) := Lib.hid (by unfold Ru.lowI; rw [if_pos ⟨u1, u2⟩]; omega)
     go_wp2_with fail
     go_roundw
     case rel => exact ⟨k + 1, by omega, by go_num, Lib.hid (fun j hj => by
      rw [hnext.out j hj, <- e32.out]
      by_cases e : j = k
      ·subst e; rw [if_pos rfl]; exact World.cell?_setCell_same _ _ _ hcell
      ·rw [if_neg e, World.cell?_setCell_other _ _ _ _ (fun h => e (by injection h with _ h2; exact h2.symm))]; exact hcs.out j hj), Lib.hid (fun j hj => by rw [World.frozen?_setCell]; exact hzs.out j hj), Lib.hid (hbel.out.setCell (Nat.le_refl _) _)⟩
     case measure => simp [RowKit.intOf]; omega
    ·have e32 : Hid (Ru.lowI x = x) := Lib.hid (by unfold Ru.lowI; rw [if_neg (by omega)])
     go_wp2_with fail
     go_roundw
     case rel => exact ⟨k + 1, by omega, by go_num, Lib.hid (fun j hj => by
      rw [hnext.out j hj, e32.out]
      by_cases e : j = k
      ·subst e; rw [if_pos rfl]; exact hcell
      ·rw [if_neg e]; exact hcs.out j hj), hzs, hbel⟩
     case measure => simp [RowKit.intOf]; omega
   ·have e32 : Hid (Ru.lowI x = x) := Lib.hid (by unfold Ru.lowI; rw [if_neg (by omega)])
    go_wp2_with fail
    go_roundw
    case rel => exact ⟨k + 1, by omega, by go_num, Lib.hid (fun j hj => by
     rw [hnext.out j hj, e32.out]
     by_cases e : j = k
     ·subst e; rw [if_pos rfl]; exact hcell
     ·rw [if_neg e]; exact hcs.out j hj), hzs, hbel⟩
    case measure => simp [RowKit.intOf]; omega
  ·obtain rfl : k = s.size := by omega
   have hback := run_convert_bytes_arg (P := Try.prog) wr 103 5 Try.underlying103 Try.underlying5 w.heap.size 0 s.size C ((Ru.bs s).map Ru.lowI) (by rw [List.length_map]; exact hl.out) (fun i hi => by
    rw [Nat.zero_add, hcs.out i hi, Ru.part_g _ _ _ (by rw [hl.out]; omega), if_pos (by omega)]
    have := Ru.g_map (l := Ru.bs s) (k := i) (by rw [hl.out]; exact hi)
    unfold Ru.g at this ⊢
    rw [this]) 9 Try.underlying9
   clear hcs hzs
   go_wp2_with fail
   go_ret
   exact ⟨rfl, hbel.out⟩
end Go.Proofs.Ytaofkaehhikfaaa
namespace Go.Proofs.Ytaofkaehhikfaaa
open Go.Lib Go.Joins Go.Deep
open Go.ChangeShapes Go.WideShapes Go.ChangeAt Go.RowKit Go.WideMaps Go.WideElems
open Go.ChangeMaps (setBlock shut_map_nil open_string shut_string)
namespace Rl
section
variable {H : Type} {enc : TypeId × Value -> H} {P : Program}
variable {α β γ δ : Type} {Ra : World -> α -> List Value -> Prop} {Rb : World -> β -> List Value -> Prop} {Rc : World -> γ -> List Value -> Prop} {Rd : World -> δ -> List Value -> Prop}
def Cells (sz : Nat) (Ra : World -> α -> List Value -> Prop) (W : World) (A : Option Addr) (us : List α) : Prop :=
 0 < us.length -> ∃ b off, A = some ⟨b, off, none⟩ /\ b < W.heap.size /\ ∀ j (hj : j < us.length), ∃ cs, cs.length = sz /\ Ra W us[j] cs /\ ∀ i x, cs[i]? = some x -> W.cell? ⟨b, off + j * sz + i, none⟩ = some x
end
end Rl
end Go.Proofs.Ytaofkaehhikfaaa
namespace Go.Proofs.Ytaofkaehhikfaaa
open Go.RowKit
namespace Rl
def Tyd (oE : Option TypeId) (W : World) (A : Option Addr) : Prop := ∀ E, oE = some E -> ∀ b off, A = some ⟨b, off, none⟩ -> ∃ cs fz, W.heap[b]? = some (.cells cs E fz)
theorem own_tyd {W : World} {base sz n cap : Nat} {E : TypeId} {A : Option Addr} {xs : List Value} (ho : W.ownsRow base E sz (.slice A n cap) n xs) : Tyd (some E) W A := fun E1 hE b off hA => by
 injection hE with hE
 subst hE
 rcases ho.2 with ⟨hv, _⟩ | ⟨g, c, cur, hv, _, hh, _⟩
 ·injection hv with h1
  rw [h1] at hA; cases hA
 ·injection hv with h1
  rw [h1] at hA
  injection hA with hA
  injection hA with hA _
  subst hA
  exact ⟨cur, (0, 0), hh⟩
end Rl
end Go.Proofs.Ytaofkaehhikfaaa
