/-
  Plain words: tokens with the closings of all that is open behind. No run of the program in this text.
-/
import Derived.Test.YtpjdaenmfdcjhaaGap
import Derived.Test.YtpjdaenmfdcjhaaGab
namespace Go.Proofs.Ytpjdaenmfdcjhaa
namespace Ns
open Tk

theorem tk_left {ts r : List Tok} {j : Nat} (h : j < ts.length) : tk (ts ++ r) j = tk ts j := by
  unfold tk; rw [List.getD_eq_getElem?_getD, List.getD_eq_getElem?_getD, List.getElem?_append_left h]
theorem tk_right (ts r : List Tok) (i : Nat) : tk (ts ++ r) (ts.length + i) = tk r i := by
  unfold tk; rw [List.getD_eq_getElem?_getD, List.getD_eq_getElem?_getD, List.getElem?_append_right (by omega), Nat.add_sub_cancel_left]
/-- the closing token of an opening -/
def clT (ts : List Tok) (x : Nat) : Tok := (13, clo (tk ts x), 0)
/-- the closings of what is open, the last one opened first -/
def cls (ts : List Tok) (o : List Nat) : List Tok := o.reverse.map (clT ts)
def more (ts : List Tok) : List Tok := ts ++ cls ts (opn ts ts.length)
theorem cls_len (ts : List Tok) (o : List Nat) : (cls ts o).length = o.length := by unfold cls; simp
theorem more_len (ts : List Tok) : (more ts).length = ts.length + (opn ts ts.length).length := by unfold more; rw [List.length_append, cls_len]
theorem cls_at {ts : List Tok} {o : List Nat} {i : Nat} (h : i < o.length) : tk (cls ts o) i = clT ts (o.getD (o.length - 1 - i) 0) := by
  unfold tk cls
  rw [List.getD_eq_getElem?_getD, List.getElem?_map, List.getElem?_reverse h, List.getElem?_eq_getElem (by omega), List.getD_eq_getElem?_getD, List.getElem?_eq_getElem (by omega)]
  rfl
theorem opn_ne {ts : List Tok} {r : List Tok} : ∀ {at_ : Nat}, at_ ≤ ts.length → opn (ts ++ r) at_ = opn ts at_
  | 0, _ => rfl
  | k + 1, h => by
    have ih := opn_ne (ts := ts) (r := r) (at_ := k) (by omega)
    have ht : tk (ts ++ r) k = tk ts k := tk_left (by omega)
    by_cases h1 : isO (tk ts k)
    · rw [opn_push h1, opn_push (by rw [ht]; exact h1), ih]
    · have hc : closes (ts ++ r) (opn (ts ++ r) k) k ↔ closes ts (opn ts k) k := by
        unfold closes
        rw [ih, ht]
        constructor
        · rintro ⟨a, b, c⟩
          have hl := opn_lt (top_mem b)
          rw [tk_left (by omega)] at c
          exact ⟨a, b, c⟩
        · rintro ⟨a, b, c⟩
          have hl := opn_lt (top_mem b)
          rw [tk_left (by omega)]
          exact ⟨a, b, c⟩
      by_cases h2 : closes ts (opn ts k) k
      · rw [opn_pop h2, opn_pop (hc.2 h2), ih]
      · rw [opn_keep h1 h2, opn_keep (by rw [ht]; exact h1) (fun c => h2 (hc.1 c)), ih]
theorem top_take {o : List Nat} {m : Nat} (hm : m < o.length) : o.take (m + 1) ≠ [] ∧ top (o.take (m + 1)) = o.getD m 0 ∧ (o.take (m + 1)).dropLast = o.take m := by
  have e := List.take_succ_eq_append_getElem hm
  refine ⟨fun c => by have hl := congrArg List.length (e.symm.trans c); rw [List.length_append, List.length_cons, List.length_nil] at hl; omega, ?_, ?_⟩
  · unfold top
    rw [e, List.getLastD_eq_getLast?, List.getLast?_append, List.getD_eq_getElem?_getD, List.getElem?_eq_getElem hm]; rfl
  · rw [e, List.dropLast_concat]
theorem more_closes (ts : List Tok) (i : Nat) (h : i < (opn ts ts.length).length) (ih : opn (more ts) (ts.length + i) = (opn ts ts.length).take ((opn ts ts.length).length - i)) :
    closes (more ts) (opn (more ts) (ts.length + i)) (ts.length + i) ∧ top (opn (more ts) (ts.length + i)) = (opn ts ts.length).getD ((opn ts ts.length).length - 1 - i) 0 := by
  have ht : tk (more ts) (ts.length + i) = clT ts ((opn ts ts.length).getD ((opn ts ts.length).length - 1 - i) 0) := by
    unfold more
    rw [tk_right, cls_at h]
  have e : (opn ts ts.length).length - i = (opn ts ts.length).length - 1 - i + 1 := by omega
  have t3 := top_take (o := opn ts ts.length) (m := (opn ts ts.length).length - 1 - i) (by omega)
  rw [ih, e]
  refine ⟨⟨by rw [ht]; rfl, t3.1, ?_⟩, t3.2.1⟩
  rw [t3.2.1, ht]
  have hx : (opn ts ts.length).getD ((opn ts ts.length).length - 1 - i) 0 ∈ opn ts ts.length := by
    rw [List.getD_eq_getElem?_getD, List.getElem?_eq_getElem (by omega)]; exact List.getElem_mem _
  have hl := opn_lt hx
  unfold more
  rw [tk_left hl]; rfl
/-- the closings close, one by one -/
theorem more_opn (ts : List Tok) : ∀ i, i ≤ (opn ts ts.length).length → opn (more ts) (ts.length + i) = (opn ts ts.length).take ((opn ts ts.length).length - i)
  | 0, _ => by
    rw [Nat.add_zero, Nat.sub_zero, List.take_length]
    exact opn_ne (Nat.le_refl _)
  | i + 1, h => by
    have ih := more_opn ts i (by omega)
    have hc := more_closes ts i (by omega) ih
    show opn (more ts) (ts.length + i + 1) = _
    rw [opn_pop hc.1, ih, show (opn ts ts.length).length - i = (opn ts ts.length).length - (i + 1) + 1 by omega]
    exact (top_take (by omega)).2.2
theorem more_pop {ts : List Tok} {i : Nat} (h : i < (opn ts ts.length).length) : closes (more ts) (opn (more ts) (ts.length + i)) (ts.length + i) ∧ top (opn (more ts) (ts.length + i)) = (opn ts ts.length).getD ((opn ts ts.length).length - 1 - i) 0 :=
  more_closes ts i h (more_opn ts i (by omega))
theorem more_deep {ts : List Tok} (h : ¬ deep ts) : ¬ deep (more ts) := by
  rintro ⟨k, hk, h2⟩
  rw [more_len] at hk
  by_cases hkn : k < ts.length
  · have e : opn (more ts) (k + 1) = opn ts (k + 1) := opn_ne (by omega)
    rw [e] at h2
    exact h ⟨k, hkn, h2⟩
  · have e := more_opn ts (k + 1 - ts.length) (by omega)
    rw [show ts.length + (k + 1 - ts.length) = k + 1 by omega] at e
    rw [e, List.length_take] at h2
    have hn : 0 < ts.length := by
      rcases Nat.eq_zero_or_pos ts.length with h0 | h0
      · have := opn_len ts ts.length; omega
      · exact h0
    exact h ⟨ts.length - 1, by omega, by rw [show ts.length - 1 + 1 = ts.length by omega]; omega⟩
/-- what is closed already ends where it did -/
theorem more_shut {ts : List Tok} {k : Nat} (hk : k < ts.length) (hm : k ∉ opn ts ts.length) : Ru.g (ends (more ts)) k = Ru.g (ends ts) k := by
  have hm2 : k ∉ opn (more ts) ts.length := by unfold more; rw [opn_ne (Nat.le_refl _)]; exact hm
  have hml := more_len ts
  unfold Ru.g ends
  rw [enF_shut hk hm2 (by omega)]
  rcases enF_cases hk hm with h | ⟨j, j1, j2, j3, j4, j5⟩
  · rcases enF_cases hk hm2 with h2 | ⟨j, j1, j2, j3, j4, _⟩
    · rw [h.2, h2.2]
    · have hO := opn_isO (top_mem j3.2.1)
      rw [j4] at hO
      unfold more at hO
      rw [tk_left hk] at hO
      exact absurd hO h.1
  · have e1 : opn (more ts) j = opn ts j := opn_ne (by omega)
    have hl := opn_lt (top_mem j3.2.1)
    have hc : closes (more ts) (opn (more ts) j) j := by
      unfold closes
      rw [e1]
      unfold more
      rw [tk_left j2, tk_left (by omega)]
      exact j3
    rw [j5]
    exact enF_at_pop hc (by rw [e1]; exact j4) j2
/-- what is open ends at its closing -/
theorem more_open {ts : List Tok} {p : Nat} (hp : p < (opn ts ts.length).length) : Ru.g (ends (more ts)) ((opn ts ts.length).getD p 0) = ((ts.length + ((opn ts ts.length).length - 1 - p) : Nat) : Int) := by
  have h := more_pop (ts := ts) (i := (opn ts ts.length).length - 1 - p) (by omega)
  have e : (opn ts ts.length).length - 1 - ((opn ts ts.length).length - 1 - p) = p := by omega
  rw [e] at h
  have hml := more_len ts
  unfold Ru.g ends
  exact enF_at_pop h.1 h.2 (by omega)
theorem ends_of_open {ts : List Tok} {k : Nat} (hm : k ∈ opn ts ts.length) : Ru.g (ends ts) k = ts.length := by
  unfold Ru.g ends; exact enF_open hm
theorem ends_not_open {ts : List Tok} {k : Nat} (hk : k < ts.length) (hm : k ∉ opn ts ts.length) : Ru.g (ends ts) k < ts.length := by
  unfold Ru.g ends
  rcases enF_cases hk hm with h | ⟨j, j1, j2, j3, j4, j5⟩
  · rw [h.2]; omega
  · rw [j5]; omega
/-- openings alone -/
theorem opn_all {os : List Tok} (h : ∀ j, j < os.length → isO (tk os j)) : ∀ i, i ≤ os.length → opn os i = List.range i
  | 0, _ => rfl
  | i + 1, hi => by rw [opn_push (h i (by omega)), opn_all h i (by omega), List.range_succ]
end Ns
end Go.Proofs.Ytpjdaenmfdcjhaa

/-
  Plain words: openings within one another; append of a token. No run of the program in this text.
-/
namespace Go.Proofs.Ytpjdaenmfdcjhaa
open Go.RowKit
namespace Ns
open Tk

def oT (c : Int) : Tok := if c % 4 = 0 then (12, ⟨#[40]⟩, 0) else if c % 4 = 1 then (12, ⟨#[91]⟩, 0) else if c % 4 = 2 then (12, ⟨#[123]⟩, 0) else (3, ⟨#[102]⟩, 0)
theorem oT_0 {c : Int} (h : c % 4 = 0) : oT c = (12, ⟨#[40]⟩, 0) := by unfold oT; rw [if_pos h]
theorem oT_1 {c : Int} (h : c % 4 = 1) : oT c = (12, ⟨#[91]⟩, 0) := by unfold oT; rw [if_neg (by omega), if_pos h]
theorem oT_2 {c : Int} (h : c % 4 = 2) : oT c = (12, ⟨#[123]⟩, 0) := by unfold oT; rw [if_neg (by omega), if_neg (by omega), if_pos h]
theorem oT_3 {c : Int} (h : c % 4 = 3) : oT c = (3, ⟨#[102]⟩, 0) := by unfold oT; rw [if_neg (by omega), if_neg (by omega), if_neg (by omega)]
theorem oT_isO (c : Int) : isO (oT c) := by
  have h : c % 4 = 0 ∨ c % 4 = 1 ∨ c % 4 = 2 ∨ c % 4 = 3 := by omega
  rcases h with h | h | h | h
  · rw [oT_0 h]; decide
  · rw [oT_1 h]; decide
  · rw [oT_2 h]; decide
  · rw [oT_3 h]; decide
/-- the openings -/
def ops (ks : List Int) (k : Nat) : List Tok := (List.range k).map fun i => oT (Ru.g ks i)
theorem ops_len (ks : List Int) (k : Nat) : (ops ks k).length = k := by unfold ops; simp
theorem ops_next (ks : List Int) (k : Nat) : ops ks (k + 1) = ops ks k ++ [oT (Ru.g ks k)] := by unfold ops; rw [List.range_succ, List.map_append]; rfl
theorem ops_at {ks : List Int} {k i : Nat} (h : i < k) : tk (ops ks k) i = oT (Ru.g ks i) := by
  rw [tk_eq (by rw [ops_len]; exact h)]
  unfold ops
  simp
theorem ops_opn (ks : List Int) (k i : Nat) (h : i ≤ k) : opn (ops ks k) i = List.range i :=
  opn_all (fun j hj => by rw [ops_len] at hj; rw [ops_at hj]; exact oT_isO _) i (by rw [ops_len]; exact h)
/-- the openings and the closings so far, all but j -/
def dp (ks : List Int) (k j : Nat) : List Tok := ops ks k ++ (cls (ops ks k) (List.range k)).take (k - j)
theorem dp_start (ks : List Int) (k : Nat) : dp ks k k = ops ks k := by unfold dp; simp
theorem dp_next {ks : List Int} {k j : Nat} (hj : j < k) : dp ks k j = dp ks k (j + 1) ++ [(13, clo (oT (Ru.g ks j)), 0)] := by
  unfold dp
  have hl : (cls (ops ks k) (List.range k)).length = k := by rw [cls_len, List.length_range]
  rw [show k - j = (k - (j + 1)) + 1 by omega, List.take_succ_eq_append_getElem (by omega), List.append_assoc]
  have h := cls_at (ts := ops ks k) (o := List.range k) (i := k - (j + 1)) (by rw [List.length_range]; omega)
  rw [tk_eq (by omega)] at h
  rw [h]
  unfold clT
  rw [List.length_range, show k - 1 - (k - (j + 1)) = j by omega, List.getD_eq_getElem?_getD, List.getElem?_range hj, Option.getD_some, ops_at hj]
theorem dp_end (ks : List Int) (k : Nat) : dp ks k 0 = more (ops ks k) := by
  unfold dp more
  rw [ops_len, ops_opn ks k k (Nat.le_refl _), List.take_of_length_le (by rw [cls_len, List.length_range]; omega)]
theorem dp_len {ks : List Int} {k j : Nat} (hj : j ≤ k) : (dp ks k j).length = k + (k - j) := by
  unfold dp
  rw [List.length_append, ops_len, List.length_take, cls_len, List.length_range]
  omega
theorem dp_at {ks : List Int} {k j i : Nat} (h : i < k) : tk (dp ks k j) i = oT (Ru.g ks i) := by
  unfold dp
  rw [tk_left (by rw [ops_len]; exact h), ops_at h]
theorem dp_deep {ks : List Int} {k : Nat} (h : 64 < k) : deep (more (ops ks k)) := by
  refine ⟨64, by rw [more_len, ops_len]; omega, ?_⟩
  have e : opn (more (ops ks k)) (64 + 1) = opn (ops ks k) (64 + 1) := opn_ne (by rw [ops_len]; omega)
  rw [e, ops_opn ks k _ (by omega)]
  simp
theorem dp_flat {ks : List Int} {k : Nat} (h : k ≤ 64) : ¬ deep (more (ops ks k)) := more_deep (by
  rintro ⟨i, hi, h2⟩
  rw [ops_len] at hi
  rw [ops_opn ks k _ (by omega), List.length_range] at h2
  omega)
theorem dp_ends {ks : List Int} {k i : Nat} (h : i < k) : Ru.g (ends (more (ops ks k))) i = 2 * (k : Int) - 1 - i := by
  have ho : opn (ops ks k) (ops ks k).length = List.range k := by rw [ops_len]; exact ops_opn ks k k (Nat.le_refl _)
  have := more_open (ts := ops ks k) (p := i) (by rw [ho, List.length_range]; exact h)
  rw [ho, List.length_range, ops_len, List.getD_eq_getElem?_getD, List.getElem?_range h, Option.getD_some] at this
  rw [this]
  omega
end Ns
abbrev tkC (us : List Tk.Tok) : List Value := Tk.cells us
theorem app_tok {ops : Array Oper} {rest : List Oper} {o : Oper} {a : Act} {Q : Exit → Act → World → Prop} {w0 wr : World} {v : Value} {us : List Tk.Tok} (hgd : o.guard = none) (s x : Operand)
    (ho : o.op = .call { callee := .builtin .append, args := #[s, x], argTypes := #[22, 22] }) (hs : a.eval s = v) (H : Ow 31 3 w0 v us.length (tkC us) wr) (k n : Int) (t : ByteArray) (c : Nat) (E' : TypeId) (B : Nat) (hB : B = wr.heap.size)
    (hx : a.eval x = .slice (some ⟨B, 0, none⟩) 1 c) (hm : us.length ≤ 1000000)
    (h : ∀ v' w3, Ow 31 3 w0 v' (us ++ [(k, t, n)]).length (tkC (us ++ [(k, t, n)])) w3 → wpList Try.prog ops Q rest (a.put o.dst v') w3) : wpList Try.prog ops Q (o :: rest) a (wr.alloc (.cells #[.int .i64 k, .string t, .int .i64 n] E')) := by
  obtain ⟨i0, hi, hz0, hz1, hz2⟩ := info_parts Try.infoTok
  refine app_own hgd s x 22 ho i0 zTok 32 Try.underlying22 hi hz0 hz1 hz2 rfl (by decide) hs H [.int .i64 k, .string t, .int .i64 n] c E' B hB hx rfl (three_ok _ _ _) (by unfold maxLen; omega) (by omega) (fun v' w3 H3 => ?_)
  refine h v' w3 ?_
  unfold tkC
  rw [List.length_append, Tk.cells_app]
  exact H3
end Go.Proofs.Ytpjdaenmfdcjhaa
