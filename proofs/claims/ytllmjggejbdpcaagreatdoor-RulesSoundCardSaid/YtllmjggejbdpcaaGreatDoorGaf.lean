/-
  Plain words of brackets: what is open, where it ends. No run of the program in this text.
-/
import Derived.Test.YtllmjggejbdpcaaGreatDoorGad
import Derived.Test.YtllmjggejbdpcaaGreatDoorGae
import Derived.Lib.Hide
import Derived.Deep.RegionHeld3
import Derived.Test.YtllmjggejbdpcaaGreatDoorGaa
import Derived.Lib.Strings
import Derived.Laws.IdiomStrings
import Derived.Laws.BytesArg
import Derived.Deep.Cut
import Derived.Deep.CutRange
import Derived.Deep.DeepCutAuto
import Derived.Deep.QuietTactic
import Derived.BigQuiet
import Derived.LoopTactic
import Derived.IntWalk
import Derived.Maps.AppendAt
import Derived.OwnWalk
import Derived.BigGuard
set_option maxHeartbeats 16000000
set_option maxRecDepth 100000
namespace Go.Proofs.YtllmjggejbdpcaaGreatDoor
namespace Ns
open Tk
def clo (t : Tok) : ByteArray :=
 if t.1 = 3 ∨ (t.1 = 12 /\ t.2.1 = ⟨#[40]⟩) then ⟨#[41]⟩ else if t.1 = 12 /\ t.2.1 = ⟨#[91]⟩ then ⟨#[93]⟩ else if t.1 = 12 /\ t.2.1 = ⟨#[123]⟩ then ⟨#[125]⟩ else ⟨#[]⟩
def isO (t : Tok) : Prop := clo t ≠ ⟨#[]⟩
instance (t : Tok) : Decidable (isO t) := by unfold isO; infer_instance
theorem clo_none {t : Tok} (h : ¬ isO t) : clo t = ⟨#[]⟩ := by unfold isO at h; exact Decidable.of_not_not h
theorem not_O {t : Tok} (h3 : t.1 ≠ 3) (h12 : t.1 ≠ 12) : ¬ isO t := fun h => h (by
 unfold clo
 rw [if_neg (fun h => h.elim h3 (fun h => h12 h.1)), if_neg (fun h => h12 h.1), if_neg (fun h => h12 h.1)])
def top (o : List Nat) : Nat := o.getLastD 0
def closes (ts : List Tok) (o : List Nat) (k : Nat) : Prop := (tk ts k).1 = 13 /\ o ≠ [] /\ clo (tk ts (top o)) = (tk ts k).2.1
instance (ts : List Tok) (o : List Nat) (k : Nat) : Decidable (closes ts o k) := by unfold closes; infer_instance
theorem closes_not {ts : List Tok} {o : List Nat} {k : Nat} (h : closes ts o k) : ¬ isO (tk ts k) := not_O (by rw [h.1]; decide) (by rw [h.1]; decide)
def opn (ts : List Tok) : Nat -> List Nat
 | 0 => []
 | k + 1 => if isO (tk ts k) then opn ts k ++ [k] else if closes ts (opn ts k) k then (opn ts k).dropLast else opn ts k
theorem opn_push {ts : List Tok} {k : Nat} (h : isO (tk ts k)) : opn ts (k + 1) = opn ts k ++ [k] := by rw [opn, if_pos h]
theorem opn_pop {ts : List Tok} {k : Nat} (h : closes ts (opn ts k) k) : opn ts (k + 1) = (opn ts k).dropLast := by rw [opn, if_neg (closes_not h), if_pos h]
theorem opn_keep {ts : List Tok} {k : Nat} (h : ¬ isO (tk ts k)) (h2 : ¬ closes ts (opn ts k) k) : opn ts (k + 1) = opn ts k := by rw [opn, if_neg h, if_neg h2]
theorem opn_lt {ts : List Tok} : ∀ {k x : Nat}, x ∈ opn ts k -> x < k
 | 0, x, h => by simp [opn] at h
 | k + 1, x, h => by
   by_cases h1 : isO (tk ts k)
   ·rw [opn_push h1] at h
    rcases List.mem_append.1 h with h | h
    ·have := opn_lt h; omega
    ·simp at h; omega
   ·by_cases h2 : closes ts (opn ts k) k
    ·rw [opn_pop h2] at h
     have := opn_lt ((List.dropLast_sublist _).subset h); omega
    ·rw [opn_keep h1 h2] at h
     have := opn_lt h; omega
theorem opn_len (ts : List Tok) : ∀ k, (opn ts k).length <= k
 | 0 => by simp [opn]
 | k + 1 => by
   have ih := opn_len ts k
   by_cases h1 : isO (tk ts k)
   ·rw [opn_push h1]; simp; omega
   ·by_cases h2 : closes ts (opn ts k) k
    ·rw [opn_pop h2]; simp; omega
    ·rw [opn_keep h1 h2]; omega
theorem opn_isO {ts : List Tok} : ∀ {k x : Nat}, x ∈ opn ts k -> isO (tk ts x)
 | 0, x, h => by simp [opn] at h
 | k + 1, x, h => by
   by_cases h1 : isO (tk ts k)
   ·rw [opn_push h1] at h
    rcases List.mem_append.1 h with h | h
    ·exact opn_isO h
    ·simp at h; rw [h]; exact h1
   ·by_cases h2 : closes ts (opn ts k) k
    ·rw [opn_pop h2] at h
     exact opn_isO ((List.dropLast_sublist _).subset h)
    ·rw [opn_keep h1 h2] at h
     exact opn_isO h
theorem opn_sorted (ts : List Tok) : ∀ k, (opn ts k).Pairwise (· < ·)
 | 0 => by simp [opn]
 | k + 1 => by
   have ih := opn_sorted ts k
   by_cases h1 : isO (tk ts k)
   ·rw [opn_push h1, List.pairwise_append]
    exact ⟨ih, List.pairwise_singleton _ _, fun a ha b hb => by simp at hb; rw [hb]; exact opn_lt ha⟩
   ·by_cases h2 : closes ts (opn ts k) k
    ·rw [opn_pop h2]; exact ih.sublist (List.dropLast_sublist _)
    ·rw [opn_keep h1 h2]; exact ih
theorem top_mem {o : List Nat} (h : o ≠ []) : top o ∈ o := by
 unfold top
 rw [List.getLastD_eq_getLast?, List.getLast?_eq_some_getLast h]
 exact List.getLast_mem h
theorem drop_top {o : List Nat} (h : o ≠ []) : o = o.dropLast ++ [top o] := by
 unfold top
 rw [List.getLastD_eq_getLast?, List.getLast?_eq_some_getLast h]
 exact (List.dropLast_concat_getLast h).symm
theorem top_out {o : List Nat} (hs : o.Pairwise (· < ·)) (h : o ≠ []) : top o ∉ o.dropLast := fun hm => by
 have e := drop_top h
 rw [e] at hs
 rw [List.pairwise_append] at hs
 have := hs.2.2 _ hm (top o) (by simp)
 omega
theorem top_max {o : List Nat} (hs : o.Pairwise (· < ·)) {x : Nat} (h : x ∈ o) : x <= top o := by
 have hn : o ≠ [] := fun e => by rw [e] at h; cases h
 rw [drop_top hn] at h
 rcases List.mem_append.1 h with h | h
 ·have e := drop_top hn
  rw [e] at hs
  rw [List.pairwise_append] at hs
  exact Nat.le_of_lt (hs.2.2 _ h (top o) (by simp))
 ·simp at h; omega
theorem mem_next {ts : List Tok} {k x : Nat} (hx : x ∈ opn ts k) (h : ¬ (closes ts (opn ts k) k /\ top (opn ts k) = x)) : x ∈ opn ts (k + 1) := by
 by_cases h1 : isO (tk ts k)
 ·rw [opn_push h1]; exact List.mem_append_left _ hx
 ·by_cases h2 : closes ts (opn ts k) k
  ·rw [opn_pop h2]
   have hn : opn ts k ≠ [] := h2.2.1
   rw [drop_top hn] at hx
   rcases List.mem_append.1 hx with hx | hx
   ·exact hx
   ·simp at hx; exact absurd ⟨h2, hx.symm⟩ h
  ·rw [opn_keep h1 h2]; exact hx
theorem mem_prev {ts : List Tok} {k x : Nat} (hx : x ∈ opn ts (k + 1)) (h : x < k) : x ∈ opn ts k := by
 by_cases h1 : isO (tk ts k)
 ·rw [opn_push h1] at hx
  rcases List.mem_append.1 hx with hx | hx
  ·exact hx
  ·simp at hx; omega
 ·by_cases h2 : closes ts (opn ts k) k
  ·rw [opn_pop h2] at hx; exact (List.dropLast_sublist _).subset hx
  ·rw [opn_keep h1 h2] at hx; exact hx
theorem top_gone {ts : List Tok} {k : Nat} (h : closes ts (opn ts k) k) : top (opn ts k) ∉ opn ts (k + 1) := by
 rw [opn_pop h]; exact top_out (opn_sorted ts k) h.2.1
theorem opn_prefix {ts : List Tok} {k : Nat} (hO : isO (tk ts k)) : ∀ j, k <= j -> (k ∈ opn ts (j + 1) -> ∃ r, opn ts (j + 1) = opn ts k ++ k :: r)
 | j, hj, hm => by
   by_cases e : j = k
   ·subst e; exact ⟨[], opn_push hO⟩
   ·match j, hj, hm, e with
    | 0, hj, _, e => omega
    | j + 1, hj, hm, e =>
      have hp := mem_prev hm (by omega)
      obtain ⟨r, hr⟩ := opn_prefix hO j (by omega) hp
      by_cases h1 : isO (tk ts (j + 1))
      ·exact ⟨r ++ [j + 1], by rw [opn_push h1, hr]; simp⟩
      ·by_cases h2 : closes ts (opn ts (j + 1)) (j + 1)
       ·have ht := top_gone h2
        rw [opn_pop h2] at hm ⊢
        rw [hr] at hm ⊢
        rcases List.eq_nil_or_concat r with h0 | ⟨r', x, h0⟩
        ·subst h0
         rw [List.dropLast_concat] at hm
         exact absurd (opn_lt hm) (by omega)
        ·rw [List.concat_eq_append] at h0
         subst h0
         refine ⟨r', ?_⟩
         rw [show opn ts k ++ k :: (r' ++ [x]) = (opn ts k ++ k :: r') ++ [x] by simp, List.dropLast_concat]
       ·exact ⟨r, by rw [opn_keep h1 h2, hr]⟩
theorem stay_iff {ts : List Tok} {k j : Nat} (hO : isO (tk ts k)) (hj : k <= j) : k ∈ opn ts (j + 1) ↔ ((opn ts (k + 1)).length <= (opn ts (j + 1)).length /\ (opn ts (j + 1)).getD ((opn ts (k + 1)).length - 1) 0 = k) := by
 have hl : (opn ts (k + 1)).length = (opn ts k).length + 1 := by rw [opn_push hO]; simp
 rw [hl]
 constructor
 ·intro h
  obtain ⟨r, hr⟩ := opn_prefix hO j hj h
  rw [hr]
  refine ⟨by simp, ?_⟩
  rw [List.getD_eq_getElem?_getD, Nat.add_sub_cancel, List.getElem?_append_right (Nat.le_refl _)]
  simp
 ·intro ⟨h1, h2⟩
  rw [List.getD_eq_getElem?_getD, Nat.add_sub_cancel, List.getElem?_eq_getElem (by omega)] at h2
  rw [<- h2]
  exact List.getElem_mem _
def enF (ts : List Tok) : Nat -> List Int
 | 0 => []
 | k + 1 => if isO (tk ts k) then enF ts k ++ [(ts.length : Int)] else if closes ts (opn ts k) k then (enF ts k).set (top (opn ts k)) (k : Int) ++ [-1] else enF ts k ++ [-1]
theorem enF_push {ts : List Tok} {k : Nat} (h : isO (tk ts k)) : enF ts (k + 1) = enF ts k ++ [(ts.length : Int)] := by rw [enF, if_pos h]
theorem enF_pop {ts : List Tok} {k : Nat} (h : closes ts (opn ts k) k) : enF ts (k + 1) = (enF ts k).set (top (opn ts k)) (k : Int) ++ [-1] := by rw [enF, if_neg (closes_not h), if_pos h]
theorem enF_keep {ts : List Tok} {k : Nat} (h : ¬ isO (tk ts k)) (h2 : ¬ closes ts (opn ts k) k) : enF ts (k + 1) = enF ts k ++ [-1] := by rw [enF, if_neg h, if_neg h2]
theorem enF_len (ts : List Tok) : ∀ k, (enF ts k).length = k
 | 0 => rfl
 | k + 1 => by
   have ih := enF_len ts k
   by_cases h1 : isO (tk ts k)
   ·rw [enF_push h1]; simp [ih]
   ·by_cases h2 : closes ts (opn ts k) k
    ·rw [enF_pop h2]; simp [ih]
    ·rw [enF_keep h1 h2]; simp [ih]
theorem enF_new (ts : List Tok) (k : Nat) : (enF ts (k + 1)).getD k 0 = if isO (tk ts k) then (ts.length : Int) else -1 := by
 have hl := enF_len ts k
 rw [List.getD_eq_getElem?_getD]
 by_cases h1 : isO (tk ts k)
 ·rw [enF_push h1, if_pos h1, List.getElem?_append_right (by omega), hl]; simp
 ·rw [if_neg h1]
  by_cases h2 : closes ts (opn ts k) k
  ·rw [enF_pop h2, List.getElem?_append_right (by simp; omega)]; simp [hl]
  ·rw [enF_keep h1 h2, List.getElem?_append_right (by omega), hl]; simp
theorem enF_old {ts : List Tok} {k x : Nat} (hx : x < k) : (enF ts (k + 1)).getD x 0 = if closes ts (opn ts k) k /\ top (opn ts k) = x then (k : Int) else (enF ts k).getD x 0 := by
 have hl := enF_len ts k
 rw [List.getD_eq_getElem?_getD, List.getD_eq_getElem?_getD]
 by_cases h1 : isO (tk ts k)
 ·rw [enF_push h1, if_neg (fun h => closes_not h.1 h1), List.getElem?_append_left (by omega)]
 ·by_cases h2 : closes ts (opn ts k) k
  ·rw [enF_pop h2, List.getElem?_append_left (by simp; omega), List.getElem?_set]
   by_cases h3 : top (opn ts k) = x
   ·rw [if_pos h3, if_pos (show top (opn ts k) < (enF ts k).length by omega), if_pos ⟨h2, h3⟩]; rfl
   ·rw [if_neg h3, if_neg (fun h => h3 h.2)]
  ·rw [enF_keep h1 h2, if_neg (fun h => h2 h.1), List.getElem?_append_left (by omega)]
theorem enF_open {ts : List Tok} : ∀ {k x : Nat}, x ∈ opn ts k -> (enF ts k).getD x 0 = (ts.length : Int)
 | 0, x, h => by simp [opn] at h
 | k + 1, x, h => by
   by_cases e : x = k
   ·subst e
    rw [enF_new, if_pos (opn_isO h)]
   ·have hx : x < k := by have := opn_lt h; omega
    rw [enF_old hx, if_neg (fun hc => by have := top_gone hc.1; rw [hc.2] at this; exact this h)]
    exact enF_open (mem_prev h hx)
theorem enF_shut {ts : List Tok} {x k : Nat} (hx : x < k) (hn : x ∉ opn ts k) : ∀ {m : Nat}, k <= m -> (enF ts m).getD x 0 = (enF ts k).getD x 0
 | 0, h => by omega
 | m + 1, h => by
   by_cases e : k = m + 1
   ·rw [e]
   ·have hxm : x ∉ opn ts m := by
     have : ∀ d, x ∉ opn ts (k + d) := fun d => by
      induction d with
      | zero => exact hn
      | succ d ih => exact fun hm => ih (mem_prev (k := k + d) hm (by omega))
     have h2 := this (m - k)
     rwa [show k + (m - k) = m by omega] at h2
    rw [enF_old (by omega), if_neg (fun (hc : closes ts (opn ts m) m /\ top (opn ts m) = x) => hxm (hc.2 ▸ top_mem hc.1.2.1))]
    exact enF_shut hx hn (by omega)
theorem enF_at_pop {ts : List Tok} {x k m : Nat} (hc : closes ts (opn ts k) k) (ht : top (opn ts k) = x) (hm : k < m) : (enF ts m).getD x 0 = (k : Int) := by
 have hx : x < k := opn_lt (ht ▸ top_mem hc.2.1)
 have hg := top_gone hc
 rw [ht] at hg
 rw [enF_shut (k := k + 1) (by omega) hg (by omega), enF_old hx, if_pos ⟨hc, ht⟩]
theorem enF_cases {ts : List Tok} : ∀ {k x : Nat}, x < k -> x ∉ opn ts k -> (¬ isO (tk ts x) /\ (enF ts k).getD x 0 = -1) ∨ ∃ j, x < j /\ j < k /\ closes ts (opn ts j) j /\ top (opn ts j) = x /\ (enF ts k).getD x 0 = (j : Int)
 | 0, x, h, _ => by omega
 | k + 1, x, h, hn => by
   by_cases e : x = k
   ·subst e
    have hO : ¬ isO (tk ts x) := fun hO => hn (by rw [opn_push hO]; simp)
    exact .inl ⟨hO, by rw [enF_new, if_neg hO]⟩
   ·have hx : x < k := by omega
    by_cases hc : closes ts (opn ts k) k /\ top (opn ts k) = x
    ·exact .inr ⟨k, hx, by omega, hc.1, hc.2, by rw [enF_old hx, if_pos hc]⟩
    ·have hm : x ∉ opn ts k := fun hm => hn (mem_next hm hc)
     rw [enF_old hx, if_neg hc]
     rcases enF_cases hx hm with h1 | ⟨j, h1, h2, h3⟩
     ·exact .inl h1
     ·exact .inr ⟨j, h1, by omega, h3⟩
def deep (ts : List Tok) : Prop := ∃ k, k < ts.length /\ 64 < (opn ts (k + 1)).length
def ends (ts : List Tok) : List Int := enF ts ts.length
theorem ends_len (ts : List Tok) : (ends ts).length = ts.length := enF_len ts _
theorem ends_range {ts : List Tok} {k : Nat} (hk : k < ts.length) : (¬ isO (tk ts k) /\ (ends ts).getD k 0 = -1) ∨ (isO (tk ts k) /\ (k : Int) < (ends ts).getD k 0 /\ (ends ts).getD k 0 <= ts.length) := by
 unfold ends
 by_cases hm : k ∈ opn ts ts.length
 ·exact .inr ⟨opn_isO hm, by rw [enF_open hm]; omega, by rw [enF_open hm]; omega⟩
 ·rcases enF_cases hk hm with h | ⟨j, h1, h2, h3, h4, h5⟩
  ·exact .inl h
  ·exact .inr ⟨by rw [<- h4]; exact opn_isO (top_mem h3.2.1), by rw [h5]; omega, by rw [h5]; omega⟩
end Ns
end Go.Proofs.YtllmjggejbdpcaaGreatDoor
namespace Go.Proofs.YtllmjggejbdpcaaGreatDoor
open Go.RowKit
namespace Ns
def ni (o : List Nat) : List Int := List.map (fun (x : Nat) => (x : Int)) o
theorem ni_len (o : List Nat) : (ni o).length = o.length := by unfold ni; simp
theorem ni_app (o r : List Nat) : ni (o ++ r) = ni o ++ ni r := by unfold ni; simp
theorem ni_g {o : List Nat} {j : Nat} (h : j < o.length) : Ru.g (ni o) j = ((o.getD j 0 : Nat) : Int) := by
 unfold Ru.g ni
 rw [List.getD_eq_getElem?_getD, List.getElem?_map, List.getElem?_eq_getElem h, List.getD_eq_getElem?_getD, List.getElem?_eq_getElem h]; rfl
theorem top_g {o : List Nat} (h : 0 < o.length) : Ru.g (ni o) (o.length - 1) = (top o : Int) := by
 rw [ni_g (by omega)]
 unfold top
 rw [List.getLastD_eq_getLast?, List.getLast?_eq_getElem?, List.getD_eq_getElem?_getD]
theorem ni_drop (o : List Nat) : ni o.dropLast = (ni o).take (o.length - 1) := by
 unfold ni; rw [List.dropLast_eq_take, List.map_take]
theorem empty_f {c : ByteArray} (h : c ≠ ⟨#[]⟩) : c.toList.isEmpty = false := by
 cases hc : c.toList.isEmpty with
 | false => rfl
 | true =>
   rw [List.isEmpty_iff] at hc
   exact absurd (str_ext (by rw [hc, Lib.toList_data])) h
end Ns
theorem nums_take (k : IntKind) (l : List Int) (m : Nat) : nums k (l.take m) = (nums k l).take m := by unfold nums; rw [List.map_take]
def EndsOk (ts : List Tk.Tok) (w : World) (e : Ending) (w' : World) : Prop :=
 ∃ v, e = .returned (.tuple #[v, .int .i64 0]) /\ w'.ownsRow w.heap.size 3 1 v (Ns.ends ts).length (nums .i64 (Ns.ends ts)) /\ Below w.heap.size w w'
def EndsBad (w : World) (e : Ending) (w' : World) : Prop := e = .returned (.tuple #[.slice none 0 0, .int .i64 3]) /\ Below w.heap.size w w'
def EndsIs (ts : List Tk.Tok) (w : World) (e : Ending) (w' : World) : Prop := (¬ Ns.deep ts -> EndsOk ts w e w') /\ (Ns.deep ts -> EndsBad w e w')
def EndsL (es : List Int) (w : World) (e : Ending) (w' : World) : Prop :=
 ∃ (A : Option Addr) (cap : Nat), e = .returned (.tuple #[.slice A es.length cap, .int .i64 0]) /\ es.length <= cap /\ Bs w' w'.heap.size .i64 A es /\ Below w.heap.size w w'
abbrev EndsRd (ts : List Tk.Tok) (w : World) (e : Ending) (w' : World) : Prop := EndsL (Ns.ends ts) w e w'
theorem ends_rd {ts : List Tk.Tok} {w : World} {e : Ending} {w' : World} (h : EndsOk ts w e w') : EndsL (Ns.ends ts) w e w' := by
 obtain ⟨v, rfl, ho, hb⟩ := h
 obtain ⟨A, cap, rfl, hc, hB⟩ := own_form ho
 exact ⟨A, cap, rfl, hc, hB, hb⟩
namespace Ns
open Tk
theorem ends_none {ts : List Tok} {k : Nat} (hk : k < ts.length) (h : ¬ isO (tk ts k)) : Ru.g (ends ts) k = -1 := by
 unfold Ru.g
 rcases ends_range hk with h1 | h1
 ·exact h1.2
 ·exact absurd h1.1 h
def Known (ts : List Tok) (k j : Nat) (e : Int) : Prop := k ∈ opn ts j -> e = Ru.g (ends ts) k
theorem known_start (ts : List Tok) (k : Nat) : Known ts k ts.length ts.length := fun h => by
 unfold Ru.g ends
 rw [enF_open h]
theorem known_same {ts : List Tok} {k j : Nat} {e : Int} (h : Known ts k (j + 1) e) (hm : k ∈ opn ts (j + 1)) : Known ts k j e := fun _ => h hm
theorem known_new {ts : List Tok} {k j : Nat} (hj : j < ts.length) (hm : k ∉ opn ts (j + 1)) : Known ts k j j := fun h => by
 have hc : closes ts (opn ts j) j /\ top (opn ts j) = k := Decidable.of_not_not fun hn => hm (mem_next h hn)
 unfold Ru.g ends
 rw [enF_at_pop hc.1 hc.2 hj]
theorem known_end {ts : List Tok} {k : Nat} {e : Int} (hO : isO (tk ts k)) (h : Known ts k (k + 1) e) : e = Ru.g (ends ts) k := h (by rw [opn_push hO]; simp)
end Ns
namespace Ns
open Tk
def Fit (es : List Int) : Prop := es.length <= 65536 /\ ∀ j, j < es.length -> -1 <= Ru.g es j /\ Ru.g es j <= 65536
theorem ends_fit {ts : List Tok} (hm : ts.length <= 65536) : Fit (ends ts) := by
 refine ⟨by rw [ends_len]; exact hm, fun j hj => ?_⟩
 rw [ends_len] at hj
 have := ends_range hj
 unfold Ru.g
 omega
def Lead (es : List Int) : Prop := ∀ j, j < es.length -> Ru.g es j = -1 ∨ Ru.g es j = (es.length : Int) ∨ ((j : Int) < Ru.g es j /\ Ru.g es j < (es.length : Int) /\ Ru.g es (Ru.g es j).toNat = -1)
theorem ends_pair {ts : List Tok} {k : Nat} (hk : k < ts.length) (hO : isO (tk ts k)) : Ru.g (ends ts) k = (ts.length : Int) ∨ ∃ j, k < j /\ j < ts.length /\ Ru.g (ends ts) k = (j : Int) /\ (tk ts j).1 = 13 /\ clo (tk ts k) = (tk ts j).2.1 /\ Ru.g (ends ts) j = -1 := by
 have e : ∀ x, Ru.g (ends ts) x = (enF ts ts.length).getD x 0 := fun x => rfl
 by_cases hm : k ∈ opn ts ts.length
 ·left; rw [e, enF_open hm]
 ·rcases enF_cases hk hm with h | ⟨j, h1, h2, h3, h4, h5⟩
  ·exact absurd hO h.1
  ·refine .inr ⟨j, h1, h2, by rw [e, h5], h3.1, by rw [<- h4]; exact h3.2.2, ends_none h2 (closes_not h3)⟩
theorem ends_lead (ts : List Tok) : Lead (ends ts) := fun j hj => by
 rw [ends_len] at hj ⊢
 by_cases hO : isO (tk ts j)
 ·rcases ends_pair hj hO with h | ⟨m, h1, h2, h3, _, _, h6⟩
  ·exact .inr (.inl h)
  ·exact .inr (.inr ⟨by rw [h3]; omega, by rw [h3]; omega, by rw [h3, Int.toNat_natCast]; exact h6⟩)
 ·exact .inl (ends_none hj hO)
def skp (es : List Int) (a : Int) : Int := if 0 <= a /\ a < es.length /\ a <= Ru.g es a.toNat then min (Ru.g es a.toNat + 1) es.length else a + 1
theorem skp_yes {es : List Int} {a : Int} (h0 : 0 <= a) (h1 : a < es.length) (h2 : a <= Ru.g es a.toNat) : skp es a = min (Ru.g es a.toNat + 1) es.length := by unfold skp; rw [if_pos ⟨h0, h1, h2⟩]
theorem skp_no {es : List Int} {a : Int} (h : ¬ (0 <= a /\ a < es.length /\ a <= Ru.g es a.toNat)) : skp es a = a + 1 := by unfold skp; rw [if_neg h]
theorem skp_gt (es : List Int) (a : Int) : a < skp es a := by unfold skp; split <;> omega
theorem skp_le {es : List Int} {a : Int} (h : a < es.length) : skp es a <= es.length := by unfold skp; split <;> omega
def sk (es : List Int) (a : Nat) : Nat := (skp es a).toNat
theorem sk_eq (es : List Int) (a : Nat) : ((sk es a : Nat) : Int) = skp es a := by unfold sk; have := skp_gt es a; omega
theorem sk_gt (es : List Int) (a : Nat) : a < sk es a := by have := skp_gt es a; have := sk_eq es a; omega
theorem sk_le {es : List Int} {a : Nat} (h : a < es.length) : sk es a <= es.length := by have := skp_le (es := es) (a := a) (by omega); have := sk_eq es a; omega
def plc (es : List Int) (tz a : Nat) : List Nat := if _h : a < tz then a :: plc es tz (sk es a) else []
termination_by tz - a
decreasing_by have := sk_gt es a; omega
theorem plc_on {es : List Int} {tz a : Nat} (h : a < tz) : plc es tz a = a :: plc es tz (sk es a) := by rw [plc, dif_pos h]
theorem plc_end {es : List Int} {tz a : Nat} (h : ¬ a < tz) : plc es tz a = [] := by rw [plc, dif_neg h]
theorem plc_mem {es : List Int} {tz : Nat} : ∀ (m : Nat) {a x : Nat}, tz - a <= m -> x ∈ plc es tz a -> a <= x /\ x < tz
 | m, a, x, hm, hx => by
   by_cases h : a < tz
   ·rw [plc_on h] at hx
    rcases List.mem_cons.1 hx with rfl | hx
    ·omega
    ·match m, hm with
     | 0, hm => omega
     | m + 1, hm =>
       have hg := sk_gt es a
       have := plc_mem m (by omega) hx
       omega
   ·rw [plc_end h] at hx; cases hx
def fnd (p : Nat -> Bool) : List Nat -> Int
 | [] => -1
 | a :: r => if p a = true then a else fnd p r
def trA (ts : List Tok) (b a : Nat) : Nat := if _h : a < b /\ (tk ts a).1 = 1 then trA ts b (a + 1) else a
termination_by b - a
theorem trA_on {ts : List Tok} {b a : Nat} (h : a < b /\ (tk ts a).1 = 1) : trA ts b a = trA ts b (a + 1) := by rw [trA, dif_pos h]
theorem trA_end {ts : List Tok} {b a : Nat} (h : ¬ (a < b /\ (tk ts a).1 = 1)) : trA ts b a = a := by rw [trA, dif_neg h]
def trB (ts : List Tok) (a : Nat) : Nat -> Nat
 | 0 => 0
 | b + 1 => if a < b + 1 /\ (tk ts b).1 = 1 then trB ts a b else b + 1
theorem trB_on {ts : List Tok} {a b : Nat} (h : a < b + 1 /\ (tk ts b).1 = 1) : trB ts a (b + 1) = trB ts a b := by rw [trB, if_pos h]
theorem trB_end {ts : List Tok} {a b : Nat} (h : ¬ (a < b + 1 /\ (tk ts b).1 = 1)) : trB ts a (b + 1) = b + 1 := by rw [trB, if_neg h]
theorem trB_low {ts : List Tok} {a b : Nat} (h : b <= a) : trB ts a b = b := by
 match b, h with
 | 0, _ => rfl
 | b + 1, h => exact trB_end (fun c => by omega)
end Ns
end Go.Proofs.YtllmjggejbdpcaaGreatDoor
namespace Go.Proofs.YtllmjggejbdpcaaGreatDoor
namespace Ns
open Tk
theorem ends_shut {ts : List Tok} {a : Nat} (ha : a < ts.length) (h0 : 0 <= Ru.g (ends ts) a) (hn : Ru.g (ends ts) a < ts.length) :
 ∃ j, a < j /\ j < ts.length /\ closes ts (opn ts j) j /\ top (opn ts j) = a /\ Ru.g (ends ts) a = (j : Int) := by
 unfold Ru.g ends at *
 have hm : a ∉ opn ts ts.length := fun hm => by rw [enF_open hm] at hn; omega
 rcases enF_cases ha hm with h | h
 ·rw [h.2] at h0; omega
 ·exact h
theorem ends_cases {ts : List Tok} {a : Nat} (ha : a < ts.length) : Ru.g (ends ts) a = -1 ∨ ((a : Int) < Ru.g (ends ts) a /\ Ru.g (ends ts) a <= ts.length) := by
 have := ends_range ha
 unfold Ru.g
 omega
theorem within1 {ts : List Tok} {a b : Nat} (ha : a < ts.length) (hb : b < ts.length) : ¬ (0 <= Ru.g (ends ts) a /\ 0 <= Ru.g (ends ts) b /\ a < b /\ (b : Int) < Ru.g (ends ts) a /\ Ru.g (ends ts) a < Ru.g (ends ts) b) := by
 intro ⟨h1, h2, h3, h4, h5⟩
 have hrb := ends_cases hb
 obtain ⟨j, j1, j2, j3, j4, j5⟩ := ends_shut ha h1 (by omega)
 by_cases hm : b ∈ opn ts j
 ·have := top_max (opn_sorted ts j) hm
  omega
 ·rcases enF_cases (k := j) (x := b) (by omega) hm with h | ⟨i, i1, i2, i3, i4, _⟩
  ·have hr := ends_range hb
   unfold Ru.g at h2
   rcases hr with hr | hr
   ·omega
   ·exact h.1 hr.1
  ·have e := enF_at_pop (m := ts.length) i3 i4 (by omega)
   have e2 : Ru.g (ends ts) b = (i : Int) := e
   omega
end Ns
end Go.Proofs.YtllmjggejbdpcaaGreatDoor
namespace Go.Proofs.YtllmjggejbdpcaaGreatDoor
namespace Ns
open Tk
def clT (ts : List Tok) (x : Nat) : Tok := (13, clo (tk ts x), 0)
def cls (ts : List Tok) (o : List Nat) : List Tok := o.reverse.map (clT ts)
def more (ts : List Tok) : List Tok := ts ++ cls ts (opn ts ts.length)
end Ns
end Go.Proofs.YtllmjggejbdpcaaGreatDoor
namespace Go.Proofs.YtllmjggejbdpcaaGreatDoor
open Go.RowKit
namespace Rl
open Tk Ns
def NoStray (R : List Tok) : Prop := ∀ j, j < R.length -> (tk R j).1 = 13 -> closes R (opn R j) j
instance (R : List Tok) : Decidable (NoStray R) := by unfold NoStray; infer_instance
def Shut (R : List Tok) : Prop := NoStray R /\ opn R R.length = []
instance (R : List Tok) : Decidable (Shut R) := by unfold Shut; infer_instance
def off (n : Nat) (l : List Nat) : List Nat := l.map (n + ·)
section
variable {P R Q : List Tok}
end
theorem fnd_mem {p : Nat -> Bool} : ∀ {l : List Nat}, fnd p l ≠ -1 -> ∃ x ∈ l, fnd p l = (x : Int) /\ p x = true
 | [], h => absurd rfl h
 | x :: l, h => by
   rw [fnd] at h ⊢
   by_cases hp : p x = true
   ·rw [if_pos hp]; exact ⟨x, by simp, rfl, hp⟩
   ·rw [if_neg hp] at h ⊢
    obtain ⟨y, h1, h2, h3⟩ := fnd_mem h
    exact ⟨y, List.mem_cons_of_mem _ h1, h2, h3⟩
def Free (p : Tok -> Bool) (R : List Tok) : Prop := ∀ x ∈ plc (ends R) R.length 0, p (tk R x) = false
instance (p : Tok -> Bool) (R : List Tok) : Decidable (Free p R) := by unfold Free; infer_instance
section
variable {P R Q : List Tok} {p : Tok -> Bool}
end
end Rl
namespace Rl
open Tk Ns
section
variable {A B : List Tok}
variable {p : Tok -> Bool}
end
section
variable {P R Q : List Tok}
end
end Rl
namespace Rl
open Tk Ns
abbrev Decl := ByteArray × List Tok × Bool
abbrev Margin := ByteArray × List Decl
abbrev Rule := Int × List Tok × List Decl × List Margin
def sp (t : Tok) : Bool := decide (t.1 = 1)
def lead (l : List Tok) : List Tok := l.dropWhile sp
def rear (l : List Tok) : List Tok := (l.reverse.dropWhile sp).reverse
def trim (l : List Tok) : List Tok := rear (lead l)
def sub (ts : List Tok) (a b : Nat) : List Tok := (ts.take b).drop a
def Edge (l : List Tok) : Prop := (∀ x, l.head? = some x -> sp x = false) /\ (∀ x, l.getLast? = some x -> sp x = false)
theorem lead_cons (t : Tok) (l : List Tok) : lead (t :: l) = if sp t = true then lead l else t :: l := by
 unfold lead
 rw [List.dropWhile_cons]
theorem rear_snoc (l : List Tok) (t : Tok) : rear (l ++ [t]) = if sp t = true then rear l else l ++ [t] := by
 unfold rear
 rw [List.reverse_append, List.reverse_singleton, List.singleton_append, List.dropWhile_cons]
 split
 ·rfl
 ·simp
theorem rear_nil : rear [] = [] := rfl
theorem lead_nil : lead [] = [] := rfl
theorem lead_id {l : List Tok} (h : ∀ x, l.head? = some x -> sp x = false) : lead l = l := by
 cases l with
 | nil => rfl
 | cons t l => rw [lead_cons, h t rfl]; rfl
theorem rear_id {l : List Tok} (h : ∀ x, l.getLast? = some x -> sp x = false) : rear l = l := by
 rcases List.eq_nil_or_concat l with e | ⟨r, t, e⟩
 ·subst e; rfl
 ·rw [List.concat_eq_append] at e
  subst e
  rw [rear_snoc, h t (by simp)]; rfl
theorem lead_head : ∀ (l : List Tok) (x : Tok), (lead l).head? = some x -> sp x = false
 | [], x, h => by cases h
 | t :: l, x, h => by
   rw [lead_cons] at h
   split at h
   ·exact lead_head l x h
   ·rename_i hs
    obtain rfl : t = x := by simpa using h
    simpa using hs
theorem rear_last (l : List Tok) (x : Tok) (h : (rear l).getLast? = some x) : sp x = false := by
 unfold rear at h
 rw [List.getLast?_reverse] at h
 exact lead_head l.reverse x h
theorem take_sp : ∀ {l : List Tok} {x : Tok}, x ∈ l.takeWhile sp -> sp x = true
 | [], x, h => by cases h
 | t :: l, x, h => by
   rw [List.takeWhile_cons] at h
   split at h
   ·rename_i hs
    rcases List.mem_cons.1 h with rfl | h
    ·exact hs
    ·exact take_sp h
   ·cases h
theorem rear_pre (l : List Tok) : ∃ r, l = rear l ++ r /\ ∀ x ∈ r, sp x = true := by
 refine ⟨(l.reverse.takeWhile sp).reverse, ?_, fun x hx => ?_⟩
 ·unfold rear
  rw [<- List.reverse_append, List.takeWhile_append_dropWhile, List.reverse_reverse]
 ·have := List.mem_reverse.1 hx
  exact take_sp this
theorem lead_suf (l : List Tok) : ∃ r, l = r ++ lead l /\ ∀ x ∈ r, sp x = true := ⟨l.takeWhile sp, by unfold lead; rw [List.takeWhile_append_dropWhile], fun x hx => take_sp hx⟩
theorem rear_head (l : List Tok) (x : Tok) (h : (rear l).head? = some x) : l.head? = some x := by
 obtain ⟨r, hr, _⟩ := rear_pre l
 cases hl : rear l with
 | nil => rw [hl] at h; cases h
 | cons t m =>
   rw [hl] at h hr
   rw [hr]; exact h
theorem trim_edge (l : List Tok) : Edge (trim l) := ⟨fun x h => lead_head l x (rear_head _ x h), fun x h => rear_last _ x h⟩
theorem trim_part (l : List Tok) : ∃ a b, l = a ++ trim l ++ b /\ (∀ x ∈ a, sp x = true) /\ ∀ x ∈ b, sp x = true := by
 obtain ⟨a, ha, ha2⟩ := lead_suf l
 obtain ⟨b, hb, hb2⟩ := rear_pre (lead l)
 refine ⟨a, b, ?_, ha2, hb2⟩
 unfold trim
 rw [List.append_assoc, <- hb, <- ha]
def brB (t : Tok) : Bool := decide (t.1 = 12 /\ t.2.1 = ⟨#[123]⟩)
def seB (t : Tok) : Bool := decide (t.1 = 15)
def stB (semi : Bool) (t : Tok) : Bool := brB t || (semi && seB t)
def fo (p : Tok -> Bool) (ts : List Tok) (a b : Nat) : Nat := if fnd (fun x => p (tk ts x)) (plc (ends ts) b a) = -1 then b else (fnd (fun x => p (tk ts x)) (plc (ends ts) b a)).toNat
def impS : ByteArray := ⟨#[105, 109, 112, 111, 114, 116, 97, 110, 116]⟩
def pageS : ByteArray := ⟨#[112, 97, 103, 101]⟩
def boxes : List ByteArray := [
 ⟨#[116, 111, 112, 45, 108, 101, 102, 116, 45, 99, 111, 114, 110, 101, 114]⟩,
 ⟨#[116, 111, 112, 45, 108, 101, 102, 116]⟩,
 ⟨#[116, 111, 112, 45, 99, 101, 110, 116, 101, 114]⟩,
 ⟨#[116, 111, 112, 45, 114, 105, 103, 104, 116]⟩,
 ⟨#[116, 111, 112, 45, 114, 105, 103, 104, 116, 45, 99, 111, 114, 110, 101, 114]⟩,
 ⟨#[114, 105, 103, 104, 116, 45, 116, 111, 112]⟩,
 ⟨#[114, 105, 103, 104, 116, 45, 109, 105, 100, 100, 108, 101]⟩,
 ⟨#[114, 105, 103, 104, 116, 45, 98, 111, 116, 116, 111, 109]⟩,
 ⟨#[98, 111, 116, 116, 111, 109, 45, 114, 105, 103, 104, 116, 45, 99, 111, 114, 110, 101, 114]⟩,
 ⟨#[98, 111, 116, 116, 111, 109, 45, 114, 105, 103, 104, 116]⟩,
 ⟨#[98, 111, 116, 116, 111, 109, 45, 99, 101, 110, 116, 101, 114]⟩,
 ⟨#[98, 111, 116, 116, 111, 109, 45, 108, 101, 102, 116]⟩,
 ⟨#[98, 111, 116, 116, 111, 109, 45, 108, 101, 102, 116, 45, 99, 111, 114, 110, 101, 114]⟩,
 ⟨#[108, 101, 102, 116, 45, 98, 111, 116, 116, 111, 109]⟩,
 ⟨#[108, 101, 102, 116, 45, 109, 105, 100, 100, 108, 101]⟩,
 ⟨#[108, 101, 102, 116, 45, 116, 111, 112]⟩]
def idx (s : ByteArray) : List ByteArray -> Int -> Int
 | [], _ => -1
 | b :: r, k => if b = s then k else idx s r (k + 1)
def box (s : ByteArray) : Int := idx (Ru.lowS s) boxes 0
def lst (l : List Tok) : Tok := tk l (l.length - 1)
def value (v : List Tok) : List Tok × Bool :=
 if (v ≠ [] /\ (lst v).1 = 2 /\ Ru.lowS (lst v).2.1 = impS) /\ trim v.dropLast ≠ [] /\ (lst (trim v.dropLast)).1 = 11 /\ (lst (trim v.dropLast)).2.1 = ⟨#[33]⟩ then (trim (trim v.dropLast).dropLast, true) else (v, false)
section
variable (sd : List Tok -> Bool)
def declV (n : ByteArray) : List Tok -> Option Decl
 | [] => none
 | c :: r => if c.1 = 14 /\ sd (value (trim r)).1 = true then some (Ru.lowS n, (value (trim r)).1, (value (trim r)).2) else none
def declN : List Tok -> Option Decl
 | [] => none
 | t :: r => if t.1 = 2 then declV sd t.2.1 (lead r) else none
def declL (l : List Tok) : Option Decl := declN sd (trim l)
def addD (d : Option Decl) (r : List Decl × List Margin) : List Decl × List Margin :=
 match d with
 | some d => (d :: r.1, r.2)
 | none => r
def blockF (ts : List Tok) : Nat -> Bool -> Nat -> Nat -> List Decl × List Margin
 | 0, _, _, _ => ([], [])
 | n + 1, page, a, b =>
   if a < b then
    if (tk ts a).1 = 1 ∨ (tk ts a).1 = 15 then blockF ts n page (a + 1) b
    else if (tk ts a).1 = 4 then
     if fo (stB true) ts (a + 1) b < b /\ (tk ts (fo (stB true) ts (a + 1) b)).1 = 12 /\ page = true /\ 0 <= box (tk ts a).2.1 /\ trim (sub ts (a + 1) (fo (stB true) ts (a + 1) b)) = [] then
      ((blockF ts n page (sk (ends ts) (fo (stB true) ts (a + 1) b)) b).1, (Ru.lowS (tk ts a).2.1, (blockF ts n false (fo (stB true) ts (a + 1) b + 1) (min (Ru.g (ends ts) (fo (stB true) ts (a + 1) b)).toNat b)).1) :: (blockF ts n page (sk (ends ts) (fo (stB true) ts (a + 1) b)) b).2)
     else blockF ts n page (sk (ends ts) (fo (stB true) ts (a + 1) b)) b
    else addD (declL sd (sub ts a (fo seB ts a b))) (blockF ts n page (fo seB ts a b) b)
   else ([], [])
def ruleAt (ts : List Tok) (is : Bool) (a e : Nat) : Rule := (if is = true then 2 else 1, trim (sub ts (if is = true then a + 1 else a) e), (blockF sd ts ts.length is (e + 1) (Ru.g (ends ts) e).toNat).1, (blockF sd ts ts.length is (e + 1) (Ru.g (ends ts) e).toNat).2)
def isAt (ts : List Tok) (a : Nat) : Bool := decide ((tk ts a).1 = 4)
def endAt (ts : List Tok) (a : Nat) : Nat := fo (stB (isAt ts a)) ts (if isAt ts a = true then a + 1 else a) ts.length
def isRule (ts : List Tok) (a : Nat) : Prop := endAt ts a < ts.length /\ (tk ts (endAt ts a)).1 = 12 /\ (isAt ts a = true -> Ru.lowS (tk ts a).2.1 = pageS) /\ sd (trim (sub ts (if isAt ts a = true then a + 1 else a) (endAt ts a))) = true
instance (ts : List Tok) (a : Nat) : Decidable (isRule sd ts a) := by unfold isRule; infer_instance
def parseF (ts : List Tok) : Nat -> Nat -> List Rule
 | 0, _ => []
 | n + 1, a =>
   if a < ts.length then
    if (tk ts a).1 = 1 then parseF ts n (a + 1)
    else if isRule sd ts a then ruleAt sd ts (isAt ts a) a (endAt ts a) :: parseF ts n (sk (ends ts) (endAt ts a))
    else parseF ts n (sk (ends ts) (endAt ts a))
   else []
def parse (ts : List Tok) : List Rule := parseF sd ts ts.length 0
end
def colT : Tok := (14, ⟨#[]⟩, 0)
end Rl
namespace Rl
def boxV : Array Value := (boxes.map Value.string).toArray
def bx (k : Nat) : ByteArray := boxes.getD k ⟨#[]⟩
theorem bx_cell {w : World} {g k : Nat} {E : TypeId} (h : w.heap[g]? = some (.cells boxV E (0, 0))) (hk : k < 16) : w.cell? ⟨g, k, none⟩ = some (.string (bx k)) := by
 have hv : boxV[k]? = some (.string (bx k)) := by
  have hl : boxes.length = 16 := rfl
  unfold boxV bx
  rw [List.getElem?_toArray, List.getElem?_map, List.getD_eq_getElem?_getD, List.getElem?_eq_getElem (by omega)]
  rfl
 simp [World.cell?, h, hv]
theorem idx_drop : ∀ (k : Nat) (s : ByteArray), k < 16 -> idx s (boxes.drop k) k = if bx k = s then (k : Int) else idx s (boxes.drop (k + 1)) (k + 1 : Nat) := fun k s h => by
 have hl : boxes.length = 16 := rfl
 have e : bx k = boxes[k]'(by omega) := by unfold bx; rw [List.getD_eq_getElem?_getD, List.getElem?_eq_getElem (by omega)]; rfl
 rw [List.drop_eq_getElem_cons (show k < boxes.length by omega), idx, e]
 rfl
end Rl
theorem rbox_any (s : ByteArray) (hm : s.size <= 90000) (w : World) :
 Calls Tryz.prog 21 #[.string s] w (fun e w' => e = .returned (.int .i64 (Rl.box s)) /\ Below w.heap.size w w') := by
 have C := Lib.hid (fun W => rlower_any s hm W)
 have HV : Hid (Rl.box s = Rl.idx (Ru.lowS s) (Rl.boxes.drop 0) (0 : Nat)) := Lib.hid rfl
 obtain ⟨W0, hW⟩ : ∃ W0, W0 = w.alloc (.cells Rl.boxV 9) := ⟨_, rfl⟩
 have hb0 : Below w.heap.size w W0 := by rw [hW]; exact (Below.refl _ _).alloc (Nat.le_refl _) _
 have k0 : W0.heap[w.heap.size]? = some (.cells Rl.boxV 9 (0, 0)) := by rw [hW]; exact heap_alloc_new w _
 have HB0 := Lib.hid hb0
 have HK0 := Lib.hid k0
 have HW : Hid (w.alloc (.cells #[.string ⟨#[116, 111, 112, 45, 108, 101, 102, 116, 45, 99, 111, 114, 110, 101, 114]⟩, .string ⟨#[116, 111, 112, 45, 108, 101, 102, 116]⟩, .string ⟨#[116, 111, 112, 45, 99, 101, 110, 116, 101, 114]⟩, .string ⟨#[116, 111, 112, 45, 114, 105, 103, 104, 116]⟩, .string ⟨#[116, 111, 112, 45, 114, 105, 103, 104, 116, 45, 99, 111, 114, 110, 101, 114]⟩, .string ⟨#[114, 105, 103, 104, 116, 45, 116, 111, 112]⟩, .string ⟨#[114, 105, 103, 104, 116, 45, 109, 105, 100, 100, 108, 101]⟩, .string ⟨#[114, 105, 103, 104, 116, 45, 98, 111, 116, 116, 111, 109]⟩, .string ⟨#[98, 111, 116, 116, 111, 109, 45, 114, 105, 103, 104, 116, 45, 99, 111, 114, 110, 101, 114]⟩, .string ⟨#[98, 111, 116, 116, 111, 109, 45, 114, 105, 103, 104, 116]⟩, .string ⟨#[98, 111, 116, 116, 111, 109, 45, 99, 101, 110, 116, 101, 114]⟩, .string ⟨#[98, 111, 116, 116, 111, 109, 45, 108, 101, 102, 116]⟩, .string ⟨#[98, 111, 116, 116, 111, 109, 45, 108, 101, 102, 116, 45, 99, 111, 114, 110, 101, 114]⟩, .string ⟨#[108, 101, 102, 116, 45, 98, 111, 116, 116, 111, 109]⟩, .string ⟨#[108, 101, 102, 116, 45, 109, 105, 100, 100, 108, 101]⟩, .string ⟨#[108, 101, 102, 116, 45, 116, 111, 112]⟩] 9) = W0) := Lib.hid hW.symm
 clear hb0 k0 hW
 generalize Rl.box s = res at *
 generalize Ru.lowS s = ls at *
 go_enter Tryz.func21, Tryz.ntmps21
 go_upto_region 2 with fail
 rw [HW.out]
 clear HW
 go_wp2_with fail
 go_loopw [4] (fun v4 wr => ∃ k : Nat, k <= 16 /\ v4 = .int .i64 k /\ Hid (res = Rl.idx ls (Rl.boxes.drop k) k) /\ Below w.heap.size w wr /\ wr.heap[w.heap.size]? = some (.cells Rl.boxV 9 (0, 0))) (fun v4 _ => 16 - (RowKit.intOf v4).toNat)
 case atStart => exact ⟨0, by omega, rfl, HV, HB0.out, HK0.out⟩
 case round =>
  obtain ⟨k, hk, rfl, HR, hb, hblk⟩ := hrel
  have HB := Lib.hid hb
  have HK := Lib.hid hblk
  by_cases hlt : k < 16
  ·have hc := Rl.bx_cell HK.out hlt
   have hgs : w.heap.size < wr.heap.size := (Array.getElem?_eq_some_iff.1 HK.out).1
   have HS := Lib.hid hgs
   rw [Rl.idx_drop k ls hlt] at HR
   clear HV HB0 HK0 hb hblk hgs
   have hlc : (k : Int) < 16 := by omega
   by_cases hx : Rl.bx k = ls
   ·have hxb : ((Rl.bx k).toList == ls.toList) = true := by rw [hx]; simp
    rw [if_pos hx] at HR
    clear hx
    generalize Rl.bx k = bk at *
    go_upto_region 5 with fail
    go_region_held3 (fun w' => w'.cell? ⟨w.heap.size, k, none⟩ = some (.string bk))
     (first | go_keep | exact (hb1.cell (p := ⟨w.heap.size, k, none⟩) HS.out).trans (by assumption))
     (first | (go_at_call 23; refine (C.out _).mono ?_; rintro e w2 ⟨rfl, hb1⟩))
    have HB2 := Lib.hid (below_next HB.out ((Below.refl _ _).drew.trans hb1))
    clear hb1 hc
    go_wp2_with fail
    go_ret
    exact ⟨by rw [HR.out]; rfl, HB2.out⟩
   ·have hxb : ((Rl.bx k).toList == ls.toList) = false := by rw [str_same]; exact decide_eq_false hx
    rw [if_neg hx] at HR
    clear hx
    generalize Rl.bx k = bk at *
    go_upto_region 5 with fail
    go_region_held3 (fun w' => w'.cell? ⟨w.heap.size, k, none⟩ = some (.string bk))
     (first | go_keep | exact (hb1.cell (p := ⟨w.heap.size, k, none⟩) HS.out).trans (by assumption))
     (first | (go_at_call 23; refine (C.out _).mono ?_; rintro e w2 ⟨rfl, hb1⟩))
    have HB2 := Lib.hid (below_next HB.out ((Below.refl _ _).drew.trans hb1))
    have HK2 := Lib.hid (below_block ((Below.refl _ _).drew.trans hb1) HK.out)
    clear hb1 hc
    go_wp2_with fail
    go_roundw
    case rel => exact ⟨k + 1, by omega, by go_num, HR, HB2.out, HK2.out⟩
    case measure => simp [RowKit.intOf]; omega
  ·obtain rfl : k = 16 := by omega
   have HE : Hid (res = -1) := Lib.hid HR.out
   clear HR HV HB0 HK0 hb hblk hlt
   go_wp2_with fail
   go_ret
   exact ⟨by rw [HE.out]; rfl, HB.out⟩
def LowAt (w : World) (s : ByteArray) (v10 : Value) (wr : World) : Prop :=
 ∃ k : Nat, k <= s.size /\ v10 = .int .i64 k /\ Hid (∀ j, j < s.size -> wr.cell? ⟨w.heap.size, j, none⟩ = some (.int .u8 (Ru.g (Ru.part (Ru.bs s) k) j))) /\ Hid (∀ j, j < s.size -> wr.frozen? ⟨w.heap.size, j, none⟩ = false) /\ Hid (Below w.heap.size w wr)
theorem lower_any (s : ByteArray) (w : World) (hm : s.size <= 90000) :
 Calls Tryz.prog 42 #[.string s] w fun e w' => e = .returned (.string (Ru.lowS s)) /\ Below w.heap.size w w' := by
 obtain ⟨C, w0, hconv, hc, hz, hb, hC⟩ := bytes_of s w
 have HC := Lib.hid hc
 have HZ := Lib.hid hz
 have HB := Lib.hid hb
 clear hc hz hb
 go_enter Tryz.func42, Tryz.ntmps42
 go_wp2_with fail
 clear hconv
 go_loopw [10] (fun v10 wr => LowAt w s v10 wr) (fun v10 _ => s.size - (RowKit.intOf v10).toNat)
 case atStart => exact ⟨0, Nat.zero_le _, rfl, Lib.hid (fun j hj => by rw [Ru.part_g _ _ _ (Nat.zero_le _), if_neg (by omega)]; exact HC.out j hj), HZ, HB⟩
 case round =>
  obtain ⟨k, hk, rfl, hcs, hzs, hbel⟩ := hrel
  have hl : Hid ((Ru.bs s).length = s.size) := Lib.hid (Ru.bs_len s)
  clear HC HZ HB
  by_cases hlt : k < s.size
  ·have hcell := hcs.out k hlt
   have hfz := hzs.out k hlt
   rw [Ru.part_g _ _ _ (by rw [hl.out]; omega), if_neg (by omega)] at hcell
   obtain ⟨y1, y2⟩ := (Ru.bs_by s).at_ k
   have hnext : Hid (∀ j, j < s.size -> Ru.g (Ru.part (Ru.bs s) (k + 1)) j = if j = k then Ru.lowI (Ru.g (Ru.bs s) k) else Ru.g (Ru.part (Ru.bs s) k) j) := Lib.hid fun j hj => by
    rw [Ru.part_g _ _ _ (by rw [hl.out]; omega), Ru.part_g _ _ _ (by rw [hl.out]; omega)]
    by_cases e : j = k
    ·subst e; rw [if_pos (by omega), if_pos rfl]
    ·rw [if_neg e]
     by_cases h2 : j < k
     ·rw [if_pos (by omega), if_pos h2]
     ·rw [if_neg (by omega), if_neg h2]
   generalize Ru.g (Ru.bs s) k = x at *
   by_cases u1 : 65 <= x
   ·by_cases u2 : x <= 90
    ·have e32 : Hid (x - 65 + 97 = Ru.lowI x) := Lib.hid (by unfold Ru.lowI; rw [if_pos ⟨u1, u2⟩]; omega)
     go_wp2_with fail
     go_roundw
     case rel => exact ⟨k + 1, by omega, by go_num, Lib.hid (fun j hj => by
      rw [hnext.out j hj, <- e32.out]
      by_cases e : j = k
      ·subst e; rw [if_pos rfl]; exact World.cell?_setCell_same _ _ _ hcell
      ·rw [if_neg e, World.cell?_setCell_other _ _ _ _ (fun h => e (by injection h with _ h2; exact h2.symm))]; exact hcs.out j hj), Lib.hid (fun j hj => by rw [World.frozen?_setCell]; exact hzs.out j hj), Lib.hid (hbel.out.setCell (Nat.le_refl _) _)⟩
     case measure => simp [RowKit.intOf]; omega
    ·have e32 : Hid (Ru.lowI x = x) := Lib.hid (by unfold Ru.lowI; rw [if_neg (by omega)])
     go_wp2_with fail
     go_roundw
     case rel => exact ⟨k + 1, by omega, by go_num, Lib.hid (fun j hj => by
      rw [hnext.out j hj, e32.out]
      by_cases e : j = k
      ·subst e; rw [if_pos rfl]; exact hcell
      ·rw [if_neg e]; exact hcs.out j hj), hzs, hbel⟩
     case measure => simp [RowKit.intOf]; omega
   ·have e32 : Hid (Ru.lowI x = x) := Lib.hid (by unfold Ru.lowI; rw [if_neg (by omega)])
    go_wp2_with fail
    go_roundw
    case rel => exact ⟨k + 1, by omega, by go_num, Lib.hid (fun j hj => by
     rw [hnext.out j hj, e32.out]
     by_cases e : j = k
     ·subst e; rw [if_pos rfl]; exact hcell
     ·rw [if_neg e]; exact hcs.out j hj), hzs, hbel⟩
    case measure => simp [RowKit.intOf]; omega
  ·obtain rfl : k = s.size := by omega
   have hback := run_convert_bytes_arg (P := Tryz.prog) wr 22 5 Tryz.underlying22 Tryz.underlying5 w.heap.size 0 s.size C ((Ru.bs s).map Ru.lowI) (by rw [List.length_map]; exact hl.out) (fun i hi => by
    rw [Nat.zero_add, hcs.out i hi, Ru.part_g _ _ _ (by rw [hl.out]; omega), if_pos (by omega)]
    have := Ru.g_map (l := Ru.bs s) (k := i) (by rw [hl.out]; exact hi)
    unfold Ru.g at this ⊢
    rw [this]) 9 Tryz.underlying9
   clear hcs hzs
   go_wp2_with fail
   go_ret
   exact ⟨rfl, hbel.out⟩
namespace Ns
open Tk
end Ns
def Nu (n : Int) (w : World) (e : Ending) (w' : World) : Prop := e = .returned (.int .i64 n) /\ Below w.heap.size w w'
def Tw (a b : Int) (w : World) (e : Ending) (w' : World) : Prop := e = .returned (.tuple #[.int .i64 a, .int .i64 b]) /\ Below w.heap.size w w'
def Rdc (w : World) (A : Option Addr) (n size : Nat) (xs : List Value) : Prop :=
 xs.length = n * size /\ (0 < n -> ∃ b off, A = some ⟨b, off, none⟩ /\ ∀ j u, xs[j]? = some u -> w.cell? ⟨b, off + j, none⟩ = some u)
theorem Rdc.of_ts {w : World} {B : Nat} {A : Option Addr} {ts : List Tk.Tok} (h : Ts w B A ts) : Rdc w A ts.length 3 (Tk.cells ts) :=
 ⟨Tk.cells_len ts, fun h0 => by
  obtain ⟨b, off, e, _, hc⟩ := h h0
  refine ⟨b, off, e, fun j u hu => ?_⟩
  have hj : j < ts.length * 3 := by rw [<- Tk.cells_len]; exact (List.getElem?_eq_some_iff.1 hu).1
  obtain ⟨c0, c1, c2⟩ := hc (j / 3) (by omega)
  obtain ⟨d0, d1, d2⟩ := Tk.cells_at ts (j / 3) (by omega)
  rcases (show j = j / 3 * 3 ∨ j = j / 3 * 3 + 1 ∨ j = j / 3 * 3 + 2 by omega) with q | q | q
  ·rw [<- q] at c0 d0
   rw [d0] at hu
   rw [c0]; exact hu
  ·rw [Nat.add_assoc, <- q] at c1
   rw [<- q] at d1
   rw [d1] at hu
   rw [c1]; exact hu
  ·rw [Nat.add_assoc, <- q] at c2
   rw [<- q] at d2
   rw [d2] at hu
   rw [c2]; exact hu⟩
theorem cells_ok (ts : List Tk.Tok) : ∀ u ∈ Tk.cells ts, u.oneCell' = true := by
 intro u hu
 unfold Tk.cells at hu
 obtain ⟨t, _, ht⟩ := List.mem_flatMap.1 hu
 simp only [List.mem_cons, List.not_mem_nil, or_false] at ht
 rcases ht with rfl | rfl | rfl <;> rfl
section
variable {P : Program} (w : World)
theorem run_append_none (base : Nat) (t ty e : TypeId) (i : TypeInfo) (size : Nat) (ht : P.underlying t = some (.slice e)) (hi : P.info? e = some i)
 (v : Value) (n : Nat) (xs : List Value) (hown : w.ownsRow base e size v n xs) (c : Nat) : (Builtin.append_ #[t, t] ty #[v, .slice none 0 c]).run P w = .ok v w := by
 rcases hown.2 with ⟨rfl, rfl⟩ | ⟨g, cap, cur, rfl, _, _, hnc, _⟩
 ·simp [Builtin.append_, run_underlying ht, sizeOf, typeInfo, hi, Builtin.lenOf, Builtin.firstCells]
 ·simp [Builtin.append_, run_underlying ht, sizeOf, typeInfo, hi, Builtin.lenOf, Builtin.firstCells, hnc, storeCells]
theorem run_append_rd (base : Nat) (t ty e : TypeId) (i : TypeInfo) (z : Value) (size bytes : Nat) (ht : P.underlying t = some (.slice e)) (hi : P.info? e = some i) (hz : i.zero = some z)
 (hsize : i.size = size) (hby : i.bytes = bytes) (hzs : z.cells.size = size) (hsz : 0 < size)
 (v : Value) (n : Nat) (xs : List Value) (hown : w.ownsRow base e size v n xs)
 (A : Option Addr) (m : Nat) (news : List Value) (c : Nat) (hr : Rdc w A m size news) (h1 : ∀ u ∈ news, u.oneCell' = true)
 (h63 : n + m <= maxLen) (hbytes : (n + m) * bytes <= 140737488355328) (hbase : base <= w.heap.size) :
 ∃ v' w', (Builtin.append_ #[t, t] ty #[v, .slice A m c]).run P w = .ok v' w' /\ w'.ownsRow base e size v' (n + m) (xs ++ news) /\ w.grownBy w' v.ownBlock := by
 rcases A with _ | ad
 ·have hm : m = 0 := by
   rcases Nat.eq_zero_or_pos m with h0 | h0
   ·exact h0
   ·obtain ⟨b, off, h, _⟩ := hr.2 h0
    cases h
  subst hm
  have hn : news = [] := List.eq_nil_of_length_eq_zero (by rw [hr.1]; simp)
  subst hn
  exact ⟨v, w, run_append_none w base t ty e i size ht hi v n xs hown c, by simpa using hown, World.grownBy.refl w _⟩
 ·have hcells : ∀ j u, news[j]? = some u -> w.cell? (ad.add j) = some u := by
   intro j u hu
   have hj : j < m * size := by rw [<- hr.1]; exact (List.getElem?_eq_some_iff.1 hu).1
   have hm : 0 < m := by
    rcases Nat.eq_zero_or_pos m with h0 | h0
    ·rw [h0] at hj; simp at hj
    ·exact h0
   obtain ⟨b, off, h, hc⟩ := hr.2 hm
   injection h with h
   subst h
   rw [Addr.add_lit]
   exact hc j u hu
  obtain ⟨v', w', hrun, h2, h3, _, _⟩ := run_append_own_at (P := P) w base t ty e i z size bytes ht hi hz hsize hby hzs hsz v n xs hown ad m c news hr.1 hcells h1 h63 hbytes hbase
  exact ⟨v', w', hrun, h2, h3⟩
theorem wpList_append_rd {ops : Array Oper} {rest : List Oper} {o : Oper} {a : Act} {Q : Exit -> Act -> World -> Prop} (hgd : o.guard = none) (s x : Operand) (t : TypeId)
 (ho : o.op = .call { callee := .builtin .append, args := #[s, x], argTypes := #[t, t] })
 (base : Nat) (e : TypeId) (i : TypeInfo) (z : Value) (size bytes : Nat) (ht : P.underlying t = some (.slice e)) (hi : P.info? e = some i) (hz : i.zero = some z)
 (hsize : i.size = size) (hby : i.bytes = bytes) (hzs : z.cells.size = size) (hsz : 0 < size)
 (v : Value) (n : Nat) (xs : List Value) (hs : a.eval s = v) (hown : w.ownsRow base e size v n xs)
 (A : Option Addr) (m : Nat) (news : List Value) (c : Nat) (hx : a.eval x = .slice A m c) (hr : Rdc w A m size news) (h1 : ∀ u ∈ news, u.oneCell' = true)
 (h63 : n + m <= maxLen) (hbytes : (n + m) * bytes <= 140737488355328) (hbase : base <= w.heap.size)
 (h : ∀ v' w', w'.ownsRow base e size v' (n + m) (xs ++ news) -> w.grownBy w' v.ownBlock -> wpList P ops Q rest (a.put o.dst v') w') : wpList P ops Q (o :: rest) a w := by
 refine wpList_plain hgd fun K hK => ?_
 obtain ⟨v', w', hrun, h2, h3⟩ := run_append_rd (P := P) w base t o.type e i z size bytes ht hi hz hsize hby hzs hsz v n xs hown A m news c hr h1 h63 hbytes hbase
 unfold Oper.wp execOp
 simp only [ho, resolve, invoke, builtin, Sem.run_bind, Sem.run_pure, Result.andThen_ok, List.map_toArray, List.map_cons, List.map_nil, hs, hx, hrun]
 exact hK _ _ (h v' w' h2 h3)
end
theorem app_all {ops : Array Oper} {rest : List Oper} {o : Oper} {a : Act} {Q : Exit -> Act -> World -> Prop} {w0 wr : World} {v : Value} {n sz : Nat} {xs : List Value} {E : TypeId} (hgd : o.guard = none) (s x : Operand) (t : TypeId)
 (ho : o.op = .call { callee := .builtin .append, args := #[s, x], argTypes := #[t, t] }) (i : TypeInfo) (z : Value) (bytes : Nat) (ht : Tryz.prog.underlying t = some (.slice E)) (hi : Tryz.prog.info? E = some i) (hz : i.zero = some z)
 (hsize : i.size = sz) (hby : i.bytes = bytes) (hzs : z.cells.size = sz) (hsz : 0 < sz) (hs : a.eval s = v) (H : Ow E sz w0 v n xs wr) (A : Option Addr) (m c : Nat) (news : List Value)
 (hx : a.eval x = .slice A m c) (hr : Rdc wr A m sz news) (h1 : ∀ u ∈ news, u.oneCell' = true) (h63 : n + m <= maxLen) (hbytes : (n + m) * bytes <= 140737488355328)
 (h : ∀ v' w3, Ow E sz w0 v' (n + m) (xs ++ news) w3 -> wpList Tryz.prog ops Q rest (a.put o.dst v') w3) : wpList Tryz.prog ops Q (o :: rest) a wr := by
 refine wpList_append_rd (w := wr) hgd s x t ho w0.heap.size E i z sz bytes ht hi hz hsize hby hzs hsz v n xs hs H.own A m news c hx hr h1 h63 hbytes H.bel.size ?_
 intro v' w3 hown hg
 exact h v' w3 ⟨hown, H.bel.grown hg H.bel.size (fun j hj => (H.own.lt j hj).1)⟩
namespace Rl
def Tyd (oE : Option TypeId) (W : World) (A : Option Addr) : Prop := ∀ E, oE = some E -> ∀ b off, A = some ⟨b, off, none⟩ -> ∃ cs fz, W.heap[b]? = some (.cells cs E fz)
theorem tyd_next {oE : Option TypeId} {w w1 : World} {A : Option Addr} (h : Tyd oE w A) (hw : Below w.heap.size w w1) : Tyd oE w1 A := fun E hE b off hA => by
 obtain ⟨cs, fz, h1⟩ := h E hE b off hA
 exact ⟨cs, fz, below_block hw h1⟩
theorem own_tyd {W : World} {base sz n cap : Nat} {E : TypeId} {A : Option Addr} {xs : List Value} (ho : W.ownsRow base E sz (.slice A n cap) n xs) : Tyd (some E) W A := fun E1 hE b off hA => by
 injection hE with hE
 subst hE
 rcases ho.2 with ⟨hv, _⟩ | ⟨g, c, cur, hv, _, hh, _⟩
 ·injection hv with h1
  rw [h1] at hA; cases hA
 ·injection hv with h1
  rw [h1] at hA
  injection hA with hA
  injection hA with hA _
  subst hA
  exact ⟨cur, (0, 0), hh⟩
end Rl
def TsT (w : World) (A : Option Addr) (us : List Tk.Tok) : Prop := Ts w w.heap.size A us /\ Rl.Tyd (some 70) w A
theorem TsT.next {w w1 : World} {A : Option Addr} {us : List Tk.Tok} (h : TsT w A us) (hb : Below w.heap.size w w1) : TsT w1 A us := ⟨h.1.next hb, Rl.tyd_next h.2 hb⟩
namespace Rl
open Tk Ns
section
variable {sd : List Tok -> Bool} {d : Decl}
end
section
variable {P R Q : List Tok} {p : Tok -> Bool}
theorem fo_bd (p : Tok -> Bool) (ts : List Tok) {a b : Nat} (h : a <= b) : a <= fo p ts a b /\ fo p ts a b <= b := by
 unfold fo
 by_cases hn : fnd (fun x => p (tk ts x)) (plc (ends ts) b a) = -1
 ·rw [if_pos hn]; omega
 ·rw [if_neg hn]
  obtain ⟨x, hx, e, _⟩ := fnd_mem hn
  have := plc_mem _ (Nat.le_refl _) hx
  rw [e, Int.toNat_natCast]; omega
theorem fo_lt {ts : List Tok} {a b : Nat} (h : a < b) (hp : p (tk ts a) = false) : a < fo p ts a b := by
 have hb := fo_bd p ts (Nat.le_of_lt h)
 by_cases e : fo p ts a b = a
 ·exfalso
  unfold fo at e
  by_cases hn : fnd (fun x => p (tk ts x)) (plc (ends ts) b a) = -1
  ·rw [if_pos hn] at e; omega
  ·rw [if_neg hn] at e
   obtain ⟨x, _, e2, hx⟩ := fnd_mem hn
   rw [e2, Int.toNat_natCast] at e
   subst e
   rw [hp] at hx; cases hx
 ·omega
end
section
variable {sd : List Tok -> Bool} {ts : List Tok}
theorem block_fuel : ∀ (n m : Nat) (page : Bool) (a b : Nat), b - a <= n -> b - a <= m -> blockF sd ts n page a b = blockF sd ts m page a b
 | 0, 0, page, a, b, _, _ => rfl
 | 0, m + 1, page, a, b, h, _ => by rw [blockF, blockF, if_neg (by omega)]
 | n + 1, 0, page, a, b, _, h => by rw [blockF, blockF, if_neg (by omega)]
 | n + 1, m + 1, page, a, b, hn, hm => by
   rw [blockF, blockF]
   by_cases hab : a < b
   ·rw [if_pos hab, if_pos hab]
    by_cases h1 : (tk ts a).1 = 1 ∨ (tk ts a).1 = 15
    ·rw [if_pos h1, if_pos h1]
     exact block_fuel n m page (a + 1) b (by omega) (by omega)
    ·rw [if_neg h1, if_neg h1]
     by_cases h4 : (tk ts a).1 = 4
     ·rw [if_pos h4, if_pos h4]
      have hf := fo_bd (stB true) ts (show a + 1 <= b by omega)
      have hs := sk_gt (ends ts) (fo (stB true) ts (a + 1) b)
      have e1 := block_fuel n m page (sk (ends ts) (fo (stB true) ts (a + 1) b)) b (by omega) (by omega)
      have e2 := block_fuel n m false (fo (stB true) ts (a + 1) b + 1) (min (Ru.g (ends ts) (fo (stB true) ts (a + 1) b)).toNat b) (by omega) (by omega)
      rw [e1, e2]
     ·rw [if_neg h4, if_neg h4]
      have hf := fo_bd seB ts (show a <= b by omega)
      have hl := fo_lt (p := seB) hab (decide_eq_false (fun c => h1 (.inr c)))
      rw [block_fuel n m page (fo seB ts a b) b (by omega) (by omega)]
   ·rw [if_neg hab, if_neg hab]
theorem parse_fuel : ∀ (n m a : Nat), ts.length - a <= n -> ts.length - a <= m -> parseF sd ts n a = parseF sd ts m a
 | 0, 0, a, _, _ => rfl
 | 0, m + 1, a, h, _ => by rw [parseF, parseF, if_neg (by omega)]
 | n + 1, 0, a, _, h => by rw [parseF, parseF, if_neg (by omega)]
 | n + 1, m + 1, a, hn, hm => by
   rw [parseF, parseF]
   by_cases hab : a < ts.length
   ·rw [if_pos hab, if_pos hab]
    have hf : a <= endAt ts a := by
     unfold endAt
     have h2 : (if isAt ts a = true then a + 1 else a) <= ts.length := by split <;> omega
     have h3 := (fo_bd (stB (isAt ts a)) ts h2).1
     have h4 : a <= (if isAt ts a = true then a + 1 else a) := by split <;> omega
     omega
    have hs := sk_gt (ends ts) (endAt ts a)
    rw [parse_fuel n m (a + 1) (by omega) (by omega), parse_fuel n m (sk (ends ts) (endAt ts a)) (by omega) (by omega)]
   ·rw [if_neg hab, if_neg hab]
end
end Rl
namespace Rl
open Tk Ns
theorem sub_cons {ts : List Tok} {a b : Nat} (h : a < b) (hb : b <= ts.length) : sub ts a b = tk ts a :: sub ts (a + 1) b := by
 unfold sub
 rw [List.drop_eq_getElem_cons (by rw [List.length_take]; omega), List.getElem_take, tk_eq (by omega)]
theorem sub_snoc {ts : List Tok} {a b : Nat} (h : a <= b) (hb : b < ts.length) : sub ts a (b + 1) = sub ts a b ++ [tk ts b] := by
 unfold sub
 rw [List.take_succ_eq_append_getElem hb, List.drop_append_of_le_length (by rw [List.length_take]; omega), tk_eq hb]
theorem sub_low {ts : List Tok} {a b : Nat} (h : b <= a) : sub ts a b = [] := by
 unfold sub
 rw [List.drop_eq_nil_of_le (by rw [List.length_take]; omega)]
theorem sub_len {ts : List Tok} {a b : Nat} (h : b <= ts.length) : (sub ts a b).length = b - a := by
 unfold sub; rw [List.length_drop, List.length_take]; omega
theorem tk_sub {ts : List Tok} {a b j : Nat} (h : j < b - a) : tk (sub ts a b) j = tk ts (a + j) := by
 unfold tk sub
 rw [List.getD_eq_getElem?_getD, List.getElem?_drop, List.getElem?_take, if_pos (by omega), List.getD_eq_getElem?_getD]
theorem trA_bd (ts : List Tok) {b : Nat} : ∀ (m a : Nat), b - a <= m -> a <= b -> a <= trA ts b a /\ trA ts b a <= b
 | m, a, hm, hab => by
   by_cases h : a < b /\ (tk ts a).1 = 1
   ·match m, hm with
    | 0, hm => omega
    | m + 1, hm =>
      rw [trA_on h]
      have := trA_bd ts (b := b) m (a + 1) (by omega) (by omega)
      omega
   ·rw [trA_end h]; omega
theorem lead_sub {ts : List Tok} {b : Nat} (hb : b <= ts.length) : ∀ (m a : Nat), b - a <= m -> a <= b -> lead (sub ts a b) = sub ts (trA ts b a) b
 | m, a, hm, hab => by
   by_cases h : a < b
   ·rw [sub_cons h hb, lead_cons]
    by_cases h1 : (tk ts a).1 = 1
    ·match m, hm with
     | 0, hm => omega
     | m + 1, hm => rw [if_pos (show sp (tk ts a) = true from decide_eq_true h1), trA_on ⟨h, h1⟩, lead_sub hb m (a + 1) (by omega) (by omega)]
    ·rw [if_neg (fun (c : sp (tk ts a) = true) => h1 (of_decide_eq_true c)), trA_end (fun c => h1 c.2), <- sub_cons h hb]
   ·rw [trA_end (fun c => h c.1), sub_low (by omega)]; rfl
theorem rear_sub {ts : List Tok} {a : Nat} : ∀ (b : Nat), b <= ts.length -> a <= b -> rear (sub ts a b) = sub ts a (trB ts a b)
 | 0, _, h => by
   show rear (sub ts a 0) = sub ts a 0
   rw [sub_low (Nat.zero_le _)]; rfl
 | b + 1, hb, h => by
   by_cases hab : a < b + 1
   ·rw [sub_snoc (by omega) (by omega), rear_snoc]
    by_cases h1 : (tk ts b).1 = 1
    ·rw [if_pos (show sp (tk ts b) = true from decide_eq_true h1), trB_on ⟨hab, h1⟩, rear_sub b (by omega) (by omega)]
    ·rw [if_neg (fun (c : sp (tk ts b) = true) => h1 (of_decide_eq_true c)), trB_end (fun c => h1 c.2), <- sub_snoc (by omega) (by omega)]
   ·rw [trB_low (by omega), sub_low (by omega)]; rfl
theorem trB_bd (ts : List Tok) {a : Nat} : ∀ (b : Nat), a <= b -> a <= trB ts a b /\ trB ts a b <= b
 | 0, h => by rw [trB]; omega
 | b + 1, h => by
   by_cases h1 : a < b + 1 /\ (tk ts b).1 = 1
   ·rw [trB_on h1]
    have := trB_bd ts (a := a) b (by omega)
    omega
   ·rw [trB_end h1]; omega
theorem cut_trim {ts : List Tok} {a b : Nat} (hab : a <= b) (hb : b <= ts.length) : sub ts (trA ts b a) (trB ts (trA ts b a) b) = trim (sub ts a b) := by
 have h := trA_bd ts (b - a) a (Nat.le_refl _) hab
 unfold trim
 rw [lead_sub hb (b - a) a (Nat.le_refl _) hab, rear_sub b hb h.2]
theorem cut_bd {ts : List Tok} {a b : Nat} (hab : a <= b) : a <= trA ts b a /\ trA ts b a <= trB ts (trA ts b a) b /\ trB ts (trA ts b a) b <= b := by
 have h := trA_bd ts (b - a) a (Nat.le_refl _) hab
 have h2 := trB_bd ts (a := trA ts b a) b h.2
 omega
theorem fnd_range (p : Nat -> Bool) (l : List Nat) : -1 <= fnd p l := by
 by_cases hn : fnd p l = -1
 ·omega
 ·obtain ⟨y, _, e, _⟩ := fnd_mem hn
  omega
end Rl
def ToldT (us : List Tk.Tok) (w : World) (e : Ending) (w' : World) : Prop :=
 ∃ (A : Option Addr) (cap : Nat), e = .returned (.slice A us.length cap) /\ us.length <= cap /\ TsT w' A us /\ Below w.heap.size w w'
theorem cut_ts {ts : List Tk.Tok} {b off x y : Nat} {W : World} {B : Nat} (hy : y <= ts.length) (h : Ts W B (some ⟨b, off, none⟩) ts) : Ts W B (some ⟨b, off + x * 3, none⟩) (Rl.sub ts x y) := fun h0 => by
 rw [Rl.sub_len hy] at h0
 obtain ⟨b2, off2, e, hb, hc⟩ := h (by omega)
 injection e with e
 injection e with e1 e2
 subst e1 e2
 refine ⟨b, off + x * 3, rfl, hb, fun j hj => ?_⟩
 rw [Rl.sub_len hy] at hj
 rw [Rl.tk_sub hj]
 obtain ⟨c0, c1, c2⟩ := hc (x + j) (by omega)
 rw [show off + x * 3 + j * 3 = off + (x + j) * 3 by omega]
 exact ⟨c0, c1, c2⟩
theorem cut_run (ts : List Tk.Tok) (A : Option Addr) (ca x y : Nat) (hxy : x <= y) (hy : y <= ts.length) (hca : ts.length <= ca) : ∃ A2 : Option Addr,
 (∀ W, (Instr.sliceAt 32 (.slice A ts.length ca) (some (.int .i64 x)) (some (.int .i64 y)) none).run Tryz.prog W = .ok (.slice A2 (y - x) (ca - x)) W) /\ ∀ W B, Ts W B A ts -> Ts W B A2 (Rl.sub ts x y) := by
 refine ⟨if ca = x then A else A.map (·.add (x * 3)), fun W => ?_, fun W B h h0 => ?_⟩
 ·have hs : (sizeOf (Tryz.prog.elem 32)).run Tryz.prog W = .ok 3 W := by kernel_rfl
  have he : Tryz.prog.underlying 32 = some (.slice (Tryz.prog.elem 32)) := by kernel_rfl
  rw [run_sliceAt_slice W _ _ _ _ _ he, run_slice_lh W _ _ _ _ he _ _ _ _ (by omega) (by omega) (by omega), hs]
  simp [Result.andThen, sliced]
 ·have h1 := h0
  rw [Rl.sub_len hy] at h1
  obtain ⟨b, off, rfl, hb, hc⟩ := h (by omega)
  rw [if_neg (by omega)]
  have := cut_ts (x := x) hy h
  have e : (some (⟨b, off, none⟩ : Addr)).map (·.add (x * 3)) = some ⟨b, off + x * 3, none⟩ := by simp [Addr.add_lit]
  rw [e]
  exact this h0
def TzR (us : List Tk.Tok) : Prop := ∀ t ∈ us, t.2.1.size <= 90000
theorem TzR.at_ {us : List Tk.Tok} (h : TzR us) {j : Nat} (hj : j < us.length) : (Tk.tk us j).2.1.size <= 90000 := by rw [Tk.tk_eq hj]; exact h _ (List.getElem_mem hj)
theorem sub_mem {ts : List Tk.Tok} {a b : Nat} {t : Tk.Tok} (h : t ∈ Rl.sub ts a b) : t ∈ ts := List.mem_of_mem_take (List.mem_of_mem_drop h)
theorem trim_mem {ts : List Tk.Tok} {t : Tk.Tok} (h : t ∈ Rl.trim ts) : t ∈ ts := by
 obtain ⟨a, b, e, _, _⟩ := Rl.trim_part ts
 rw [e]; simp [h]
theorem trim_len (ts : List Tk.Tok) : (Rl.trim ts).length <= ts.length := by
 obtain ⟨a, b, e, _, _⟩ := Rl.trim_part ts
 have := congrArg List.length e
 simp only [List.length_append] at this
 omega
theorem closing_any (k : Int) (t : ByteArray) (n : Int) (w : World) : Calls Tryz.prog 51 #[tokV k t n] w (Sg (Ns.clo (k, t, n)) w) := by
 obtain ⟨W0, hW⟩ : ∃ W0, W0 = w.alloc (.cells #[.int .i64 k, .string t, .int .i64 n] 70) := ⟨_, rfl⟩
 have hb0 : Below w.heap.size w W0 := by rw [hW]; exact (Below.refl _ _).alloc (Nat.le_refl _) _
 have k0 : W0.heap[w.heap.size]? = some (.cells #[.int .i64 k, .string t, .int .i64 n] 70 (0, 0)) := by rw [hW]; exact heap_alloc_new w _
 obtain ⟨q0, q1, q2⟩ := tok3_cells k0
 have HB0 := Lib.hid hb0
 have HW := Lib.hid hW
 clear hb0 k0 hW
 unfold tokV
 by_cases h3 : k = 3
 ·subst h3
  have HV : Hid (Ns.clo (3, t, n) = ⟨#[41]⟩) := Lib.hid (by unfold Ns.clo; rw [if_pos (.inl rfl)])
  go_enter Tryz.func51, Tryz.ntmps51
  go_upto_region 1 with fail
  rw [<- HW.out]
  go_wp2_with fail
  go_ret
  exact ⟨by rw [HV.out]; rfl, HB0.out⟩
 ·have e3 : (k == 3) = false := beq_false_of_ne h3
  by_cases h12 : k = 12
  ·subst h12
   clear h3
   have cases4 : t = ⟨#[40]⟩ ∨ t = ⟨#[91]⟩ ∨ t = ⟨#[123]⟩ ∨ ((t.toList == [40]) = false /\ (t.toList == [91]) = false /\ (t.toList == [123]) = false) := by
    rw [str_test, str_test, str_test]
    by_cases a : t = ⟨#[40]⟩
    ·exact .inl a
    ·by_cases b : t = ⟨#[91]⟩
     ·exact .inr (.inl b)
     ·by_cases c : t = ⟨#[123]⟩
      ·exact .inr (.inr (.inl c))
      ·exact .inr (.inr (.inr ⟨decide_eq_false a, decide_eq_false b, decide_eq_false c⟩))
   have HV : Hid (t = ⟨#[40]⟩ ∨ t = ⟨#[91]⟩ ∨ t = ⟨#[123]⟩ ∨ Ns.clo (12, t, n) = ⟨#[]⟩) := Lib.hid (by
    rcases cases4 with h | h | h | ⟨h1, h2, h3⟩
    ·exact .inl h
    ·exact .inr (.inl h)
    ·exact .inr (.inr (.inl h))
    ·rw [str_test] at h1 h2 h3
     refine .inr (.inr (.inr ?_))
     unfold Ns.clo
     rw [if_neg (fun h => h.elim (fun h => by cases h) (fun h => of_decide_eq_false h1 h.2)), if_neg (fun h => of_decide_eq_false h2 h.2), if_neg (fun h => of_decide_eq_false h3 h.2)])
   rcases cases4 with rfl | rfl | rfl | ⟨e4, e5, e6⟩
   ·clear HV
    go_enter Tryz.func51, Tryz.ntmps51
    go_upto_region 1 with fail
    rw [<- HW.out]
    go_wp2_with fail
    go_ret
    exact ⟨rfl, HB0.out⟩
   ·clear HV
    go_enter Tryz.func51, Tryz.ntmps51
    go_upto_region 1 with fail
    rw [<- HW.out]
    go_wp2_with fail
    go_ret
    exact ⟨rfl, HB0.out⟩
   ·clear HV
    go_enter Tryz.func51, Tryz.ntmps51
    go_upto_region 1 with fail
    rw [<- HW.out]
    go_wp2_with fail
    go_ret
    exact ⟨rfl, HB0.out⟩
   ·have HV2 : Hid (Ns.clo (12, t, n) = ⟨#[]⟩) := Lib.hid (by
     rcases HV.out with h | h | h | h
     ·rw [str_test] at e4; exact absurd h (of_decide_eq_false e4)
     ·rw [str_test] at e5; exact absurd h (of_decide_eq_false e5)
     ·rw [str_test] at e6; exact absurd h (of_decide_eq_false e6)
     ·exact h)
    clear HV
    go_enter Tryz.func51, Tryz.ntmps51
    go_upto_region 1 with fail
    rw [<- HW.out]
    go_wp2_with fail
    go_ret
    exact ⟨by rw [HV2.out]; rfl, HB0.out⟩
  ·have e12 : (k == 12) = false := beq_false_of_ne h12
   have HV : Hid (Ns.clo (k, t, n) = ⟨#[]⟩) := Lib.hid (Ns.clo_none (Ns.not_O h3 h12))
   clear h3 h12
   go_enter Tryz.func51, Tryz.ntmps51
   go_upto_region 1 with fail
   rw [<- HW.out]
   go_wp2_with fail
   go_ret
   exact ⟨by rw [HV.out]; rfl, HB0.out⟩
theorem cell_kept {w W : World} {bk : Nat} {v : Value} (hb : Below w.heap.size w W) (hl : bk < w.heap.size) (h : w.cell? ⟨bk, 0, none⟩ = some v) : W.cell? ⟨bk, 0, none⟩ = some v := (hb.cell (p := ⟨bk, 0, none⟩) hl).trans h
theorem brace_test (t : ByteArray) : (t.toList == [123]) = decide (t = ⟨#[123]⟩) := str_test t 123
theorem isSemi_any (u : Tk.Tok) (w : World) : Calls Tryz.prog 127 #[.agg #[.int .i64 u.1, .string u.2.1, .int .i64 u.2.2]] w (Bo (Rl.seB u) w) := by
 obtain ⟨kd, t, n⟩ := u
 obtain ⟨W0, hW⟩ : ∃ W0, W0 = w.alloc (.cells #[.int .i64 kd, .string t, .int .i64 n] 70) := ⟨_, rfl⟩
 have hb0 : Below w.heap.size w W0 := by rw [hW]; exact (Below.refl _ _).alloc (Nat.le_refl _) _
 have k0 : W0.heap[w.heap.size]? = some (.cells #[.int .i64 kd, .string t, .int .i64 n] 70 (0, 0)) := by rw [hW]; exact heap_alloc_new w _
 obtain ⟨p0, p1, p2⟩ := tok3_cells k0
 have HB0 := Lib.hid hb0
 have HW := Lib.hid hW.symm
 clear hb0 k0 hW
 by_cases hk : kd = 15
 ·have HV : Hid (Rl.seB (kd, t, n) = true) := Lib.hid (decide_eq_true hk)
  rw [hk] at p0
  clear hk
  go_enter Tryz.func127, Tryz.ntmps127
  go_upto_region 1 with fail
  rw [HW.out]
  clear HW
  go_wp2_with fail
  go_ret
  exact ⟨by rw [HV.out]; rfl, HB0.out⟩
 ·have HV : Hid (Rl.seB (kd, t, n) = false) := Lib.hid (decide_eq_false hk)
  have e : (kd == 15) = false := beq_false_of_ne hk
  clear hk
  go_enter Tryz.func127, Tryz.ntmps127
  go_upto_region 1 with fail
  rw [HW.out]
  clear HW
  go_wp2_with fail
  go_ret
  exact ⟨by rw [HV.out]; rfl, HB0.out⟩
theorem opensBlock_any (u : Tk.Tok) (w : World) : Calls Tryz.prog 99 #[.agg #[.int .i64 u.1, .string u.2.1, .int .i64 u.2.2]] w (Bo (Rl.brB u) w) := by
 obtain ⟨kd, t, n⟩ := u
 obtain ⟨W0, hW⟩ : ∃ W0, W0 = w.alloc (.cells #[.int .i64 kd, .string t, .int .i64 n] 70) := ⟨_, rfl⟩
 have hb0 : Below w.heap.size w W0 := by rw [hW]; exact (Below.refl _ _).alloc (Nat.le_refl _) _
 have k0 : W0.heap[w.heap.size]? = some (.cells #[.int .i64 kd, .string t, .int .i64 n] 70 (0, 0)) := by rw [hW]; exact heap_alloc_new w _
 obtain ⟨p0, p1, p2⟩ := tok3_cells k0
 have HB0 := Lib.hid hb0
 have HW := Lib.hid hW.symm
 clear hb0 k0 hW
 by_cases hk : kd = 12
 ·by_cases ht : t = ⟨#[123]⟩
  ·have HV : Hid (Rl.brB (kd, t, n) = true) := Lib.hid (decide_eq_true ⟨hk, ht⟩)
   have e2 : (t.toList == [123]) = true := by rw [brace_test]; exact decide_eq_true ht
   rw [hk] at p0
   clear hk ht
   go_enter Tryz.func99, Tryz.ntmps99
   go_upto_region 1 with fail
   rw [HW.out]
   clear HW
   go_wp2_with fail
   go_ret
   exact ⟨by rw [HV.out]; rfl, HB0.out⟩
  ·have HV : Hid (Rl.brB (kd, t, n) = false) := Lib.hid (decide_eq_false (fun c => ht c.2))
   have e2 : (t.toList == [123]) = false := by rw [brace_test]; exact decide_eq_false ht
   rw [hk] at p0
   clear hk ht
   go_enter Tryz.func99, Tryz.ntmps99
   go_upto_region 1 with fail
   rw [HW.out]
   clear HW
   go_wp2_with fail
   go_ret
   exact ⟨by rw [HV.out]; rfl, HB0.out⟩
 ·have HV : Hid (Rl.brB (kd, t, n) = false) := Lib.hid (decide_eq_false (fun c => hk c.1))
  have e : (kd == 12) = false := beq_false_of_ne hk
  clear hk
  go_enter Tryz.func99, Tryz.ntmps99
  go_upto_region 1 with fail
  rw [HW.out]
  clear HW
  go_wp2_with fail
  go_ret
  exact ⟨by rw [HV.out]; rfl, HB0.out⟩
theorem ending1_any (u : Tk.Tok) (bk : Nat) (kd : Int) (w : World) (hl : bk < w.heap.size) (h : w.cell? ⟨bk, 0, none⟩ = some (.int .i64 kd)) :
 Calls Tryz.prog 129 #[.agg #[.int .i64 u.1, .string u.2.1, .int .i64 u.2.2], .pointer (some ⟨bk, 0, none⟩)] w (Bo (Rl.stB (decide (kd = 4)) u) w) := by
 have CO : Hid (∀ W, Calls Tryz.prog 99 #[.agg #[.int .i64 u.1, .string u.2.1, .int .i64 u.2.2]] W (Bo (Rl.brB u) W)) := Lib.hid fun W => opensBlock_any u W
 have CM : Hid (∀ W, Calls Tryz.prog 127 #[.agg #[.int .i64 u.1, .string u.2.1, .int .i64 u.2.2]] W (Bo (Rl.seB u) W)) := Lib.hid fun W => isSemi_any u W
 have HV : Hid (Rl.stB (decide (kd = 4)) u = (Rl.brB u || (decide (kd = 4) && Rl.seB u))) := Lib.hid rfl
 generalize Rl.stB (decide (kd = 4)) u = st at *
 generalize Rl.brB u = br at *
 generalize Rl.seB u = se at *
 obtain ⟨uk, t, n⟩ := u
 obtain ⟨W0, hW⟩ : ∃ W0, W0 = w.alloc (.cells #[.int .i64 uk, .string t, .int .i64 n] 70) := ⟨_, rfl⟩
 have hb0 : Below w.heap.size w W0 := by rw [hW]; exact (Below.refl _ _).alloc (Nat.le_refl _) _
 have k0 : W0.heap[w.heap.size]? = some (.cells #[.int .i64 uk, .string t, .int .i64 n] 70 (0, 0)) := by rw [hW]; exact heap_alloc_new w _
 have hs0 : w.heap.size < W0.heap.size := by rw [hW]; simp
 have q0 := cell_kept hb0 hl h
 have hl0 := Nat.lt_of_lt_of_le hl hb0.size
 obtain ⟨p0, p1, p2⟩ := tok3_cells k0
 have HB0 := Lib.hid hb0
 have HW := Lib.hid hW.symm
 clear hb0 k0 hW h hl
 simp only at CO CM
 cases br
 ·by_cases hk : kd = 4
  ·rw [decide_eq_true hk] at HV
   rw [hk] at q0
   clear hk
   go_enter Tryz.func129, Tryz.ntmps129
   go_upto_region 1 with fail
   rw [HW.out]
   clear HW
   go_wp2_with (first | (go_at_call 99; ((with_reducible refine (CO.out _).mono ?_); rintro e w1 ⟨rfl, b1⟩; have HB1 := Lib.hid (below_next HB0.out b1); have r0 := (b1.cell (p := ⟨bk, 0, none⟩) hl0).trans q0; have s0 := (b1.cell (p := ⟨w.heap.size, 0, none⟩) hs0).trans p0; have s1 := (b1.cell (p := ⟨w.heap.size, 1, none⟩) hs0).trans p1; have s2 := (b1.cell (p := ⟨w.heap.size, 2, none⟩) hs0).trans p2; clear b1)) | (go_at_call 127; ((with_reducible refine (CM.out _).mono ?_); rintro e w2 ⟨rfl, b2⟩; have HB2 := Lib.hid (below_next HB1.out b2); clear b2)))
   go_ret
   exact ⟨by rw [HV.out]; cases se <;> rfl, HB2.out⟩
  ·rw [decide_eq_false hk] at HV
   have e4 : (kd == 4) = false := beq_false_of_ne hk
   clear hk
   go_enter Tryz.func129, Tryz.ntmps129
   go_upto_region 1 with fail
   rw [HW.out]
   clear HW
   go_wp2_with (go_at_call 99; ((with_reducible refine (CO.out _).mono ?_); rintro e w1 ⟨rfl, b1⟩; have HB1 := Lib.hid (below_next HB0.out b1); have r0 := (b1.cell (p := ⟨bk, 0, none⟩) hl0).trans q0; clear b1))
   go_ret
   exact ⟨by rw [HV.out]; rfl, HB1.out⟩
 ·go_enter Tryz.func129, Tryz.ntmps129
  go_upto_region 1 with fail
  rw [HW.out]
  clear HW
  go_wp2_with (go_at_call 99; ((with_reducible refine (CO.out _).mono ?_); rintro e w1 ⟨rfl, b1⟩; have HB1 := Lib.hid (below_next HB0.out b1); clear b1))
  go_ret
  exact ⟨by rw [HV.out]; rfl, HB1.out⟩
abbrev endV (bk : Nat) : Value := .func (Fn.func 129) #[] #[.pointer (some ⟨bk, 0, none⟩)]
theorem ending_any (kd : Int) (w : World) : Calls Tryz.prog 66 #[.int .i64 kd] w fun e w' => e = .returned (endV w.heap.size) /\ w.heap.size < w'.heap.size /\ w'.cell? ⟨w.heap.size, 0, none⟩ = some (.int .i64 kd) /\ Below w.heap.size w w' := by
 have hmf : ∀ (fn : Fn) (first cap : Array Value) (w : World), (Instr.makeFunc fn first cap).run Tryz.prog w = .ok (.func fn first cap) w := fun _ _ _ _ => rfl
 go_enter Tryz.func66, Tryz.ntmps66
 go_wp2_with fail
 go_ret
 exact ⟨rfl, by simp, by rw [World.cell?_alloc_mark]; rfl, (Below.refl _ _).alloc (Nat.le_refl _) _⟩
end Go.Proofs.YtllmjggejbdpcaaGreatDoor
