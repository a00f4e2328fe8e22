/-
  Plain words of rules: what Trim tells is what is trimmed; the first of two kinds. No run of the program in this text.
-/
import Derived.Test.YtkcabpjfgbghjaaGreatDoorGai
import Derived.Test.YtkcabpjfgbghjaaGreatDoorGae
import Derived.Deep.QuietTactic
import Derived.BigQuiet
import Derived.Lib.Hide
import Derived.Deep.DeepCutAuto
import Derived.LoopTactic
import Derived.BigGuard
import Derived.Test.YtkcabpjfgbghjaaGreatDoorGag
import Derived.Maps.AppendAt
import Derived.Deep.Cut
import Derived.Deep.CutRange
import Derived.IntWalk
namespace Go.Proofs.YtkcabpjfgbghjaaGreatDoor
set_option maxHeartbeats 16000000
set_option maxRecDepth 100000
open Go.RowKit
namespace Rl
open Tk Ns
theorem sub_cons {ts : List Tok} {a b : Nat} (h : a < b) (hb : b <= ts.length) : sub ts a b = tk ts a :: sub ts (a + 1) b := by
 unfold sub
 rw [List.drop_eq_getElem_cons (by rw [List.length_take]; omega), List.getElem_take, tk_eq (by omega)]
theorem sub_snoc {ts : List Tok} {a b : Nat} (h : a <= b) (hb : b < ts.length) : sub ts a (b + 1) = sub ts a b ++ [tk ts b] := by
 unfold sub
 rw [List.take_succ_eq_append_getElem hb, List.drop_append_of_le_length (by rw [List.length_take]; omega), tk_eq hb]
theorem sub_low {ts : List Tok} {a b : Nat} (h : b <= a) : sub ts a b = [] := by
 unfold sub
 rw [List.drop_eq_nil_of_le (by rw [List.length_take]; omega)]
theorem sub_len {ts : List Tok} {a b : Nat} (h : b <= ts.length) : (sub ts a b).length = b - a := by
 unfold sub; rw [List.length_drop, List.length_take]; omega
theorem tk_sub {ts : List Tok} {a b j : Nat} (h : j < b - a) : tk (sub ts a b) j = tk ts (a + j) := by
 unfold tk sub
 rw [List.getD_eq_getElem?_getD, List.getElem?_drop, List.getElem?_take, if_pos (by omega), List.getD_eq_getElem?_getD]
theorem trA_bd (ts : List Tok) {b : Nat} : ∀ (m a : Nat), b - a <= m -> a <= b -> a <= trA ts b a /\ trA ts b a <= b
 | m, a, hm, hab => by
   by_cases h : a < b /\ (tk ts a).1 = 1
   ·match m, hm with
    | 0, hm => omega
    | m + 1, hm =>
      rw [trA_on h]
      have := trA_bd ts (b := b) m (a + 1) (by omega) (by omega)
      omega
   ·rw [trA_end h]; omega
theorem lead_sub {ts : List Tok} {b : Nat} (hb : b <= ts.length) : ∀ (m a : Nat), b - a <= m -> a <= b -> lead (sub ts a b) = sub ts (trA ts b a) b
 | m, a, hm, hab => by
   by_cases h : a < b
   ·rw [sub_cons h hb, lead_cons]
    by_cases h1 : (tk ts a).1 = 1
    ·match m, hm with
     | 0, hm => omega
     | m + 1, hm => rw [if_pos (show sp (tk ts a) = true from decide_eq_true h1), trA_on ⟨h, h1⟩, lead_sub hb m (a + 1) (by omega) (by omega)]
    ·rw [if_neg (fun (c : sp (tk ts a) = true) => h1 (of_decide_eq_true c)), trA_end (fun c => h1 c.2), <- sub_cons h hb]
   ·rw [trA_end (fun c => h c.1), sub_low (by omega)]; rfl
theorem rear_sub {ts : List Tok} {a : Nat} : ∀ (b : Nat), b <= ts.length -> a <= b -> rear (sub ts a b) = sub ts a (trB ts a b)
 | 0, _, h => by
   show rear (sub ts a 0) = sub ts a 0
   rw [sub_low (Nat.zero_le _)]; rfl
 | b + 1, hb, h => by
   by_cases hab : a < b + 1
   ·rw [sub_snoc (by omega) (by omega), rear_snoc]
    by_cases h1 : (tk ts b).1 = 1
    ·rw [if_pos (show sp (tk ts b) = true from decide_eq_true h1), trB_on ⟨hab, h1⟩, rear_sub b (by omega) (by omega)]
    ·rw [if_neg (fun (c : sp (tk ts b) = true) => h1 (of_decide_eq_true c)), trB_end (fun c => h1 c.2), <- sub_snoc (by omega) (by omega)]
   ·rw [trB_low (by omega), sub_low (by omega)]; rfl
theorem trB_bd (ts : List Tok) {a : Nat} : ∀ (b : Nat), a <= b -> a <= trB ts a b /\ trB ts a b <= b
 | 0, h => by rw [trB]; omega
 | b + 1, h => by
   by_cases h1 : a < b + 1 /\ (tk ts b).1 = 1
   ·rw [trB_on h1]
    have := trB_bd ts (a := a) b (by omega)
    omega
   ·rw [trB_end h1]; omega
theorem cut_trim {ts : List Tok} {a b : Nat} (hab : a <= b) (hb : b <= ts.length) : sub ts (trA ts b a) (trB ts (trA ts b a) b) = trim (sub ts a b) := by
 have h := trA_bd ts (b - a) a (Nat.le_refl _) hab
 unfold trim
 rw [lead_sub hb (b - a) a (Nat.le_refl _) hab, rear_sub b hb h.2]
theorem cut_bd {ts : List Tok} {a b : Nat} (hab : a <= b) : a <= trA ts b a /\ trA ts b a <= trB ts (trA ts b a) b /\ trB ts (trA ts b a) b <= b := by
 have h := trA_bd ts (b - a) a (Nat.le_refl _) hab
 have h2 := trB_bd ts (a := trA ts b a) b h.2
 omega
theorem plc_sorted (es : List Int) (b : Nat) : ∀ (m a : Nat), b - a <= m -> (plc es b a).Pairwise (· < ·)
 | m, a, hm => by
   by_cases h : a < b
   ·have hg := sk_gt es a
    match m, hm with
    | 0, hm => omega
    | m + 1, hm =>
      rw [plc_on h, List.pairwise_cons]
      exact ⟨fun x hx => by have := plc_mem _ (Nat.le_refl _) hx; omega, plc_sorted es b m (sk es a) (by omega)⟩
   ·rw [plc_end h]; exact List.Pairwise.nil
theorem fnd_ge {p : Nat -> Bool} {l : List Nat} {x : Nat} (h : ∀ y ∈ l, x < y) : fnd p l = -1 ∨ (x : Int) < fnd p l := by
 by_cases hn : fnd p l = -1
 ·exact .inl hn
 ·obtain ⟨y, hy, e, _⟩ := fnd_mem hn
  have := h y hy
  right; omega
theorem fnd_range (p : Nat -> Bool) (l : List Nat) : -1 <= fnd p l := by
 by_cases hn : fnd p l = -1
 ·omega
 ·obtain ⟨y, _, e, _⟩ := fnd_mem hn
  omega
theorem fnd_or (p q : Nat -> Bool) : ∀ {l : List Nat}, l.Pairwise (· < ·) -> fnd (fun x => p x || q x) l = if fnd p l = -1 then fnd q l else if fnd q l = -1 then fnd p l else min (fnd p l) (fnd q l)
 | [], _ => rfl
 | x :: l, h => by
   rw [List.pairwise_cons] at h
   have ih := fnd_or p q h.2
   rw [fnd, fnd, fnd]
   by_cases hp : p x = true
   ·have gq := fnd_ge (p := q) h.1
    rw [if_pos (by rw [hp]; rfl), if_pos hp, if_neg (by omega)]
    by_cases hq : q x = true
    ·rw [if_pos hq, if_neg (by omega)]; omega
    ·rw [if_neg hq]
     rcases gq with e | e
     ·rw [if_pos e]
     ·rw [if_neg (by omega)]; omega
   ·have hp' : p x = false := by simpa using hp
    rw [if_neg hp]
    by_cases hq : q x = true
    ·have gp := fnd_ge (p := p) h.1
     rw [if_pos (by rw [hp', hq]; rfl), if_pos hq, if_neg (show ¬ ((x : Int) = -1) by omega)]
     rcases gp with e | e
     ·rw [if_pos e]
     ·rw [if_neg (by omega)]; omega
    ·have hq' : q x = false := by simpa using hq
     rw [if_neg (by rw [hp', hq']; decide), if_neg hq]
     exact ih
def firstR (semi : Bool) (a b : Int) (tz : Nat) : Int := if semi = false ∨ b < 0 ∨ (0 <= a /\ a < b) then (if a < 0 then (tz : Int) else a) else b
theorem firstR_false (a b : Int) (tz : Nat) : firstR false a b tz = if a < 0 then (tz : Int) else a := by unfold firstR; rw [if_pos (.inl rfl)]
theorem firstR_true (a b : Int) (tz : Nat) : firstR true a b tz = if b < 0 ∨ (0 <= a /\ a < b) then (if a < 0 then (tz : Int) else a) else b := by
 unfold firstR
 simp only [Bool.true_eq_false, false_or]
theorem first_fo (semi : Bool) (ts : List Tok) (fr tz : Nat) :
 firstR semi (fnd (fun x => brB (tk ts x)) (plc (ends ts) tz fr)) (fnd (fun x => seB (tk ts x)) (plc (ends ts) tz fr)) tz = (fo (stB semi) ts fr tz : Nat) := by
 have hs := plc_sorted (ends ts) tz _ fr (Nat.le_refl _)
 have ra := fnd_range (fun x => brB (tk ts x)) (plc (ends ts) tz fr)
 have rb := fnd_range (fun x => seB (tk ts x)) (plc (ends ts) tz fr)
 cases semi
 ·have e : fnd (fun x => stB false (tk ts x)) (plc (ends ts) tz fr) = fnd (fun x => brB (tk ts x)) (plc (ends ts) tz fr) := fnd_congr fun x _ => by unfold stB; simp
  unfold firstR fo
  rw [e, if_pos (.inl rfl)]
  by_cases h : fnd (fun x => brB (tk ts x)) (plc (ends ts) tz fr) = -1
  ·rw [if_pos h, h, if_pos (by omega)]
  ·rw [if_neg h, if_neg (by omega)]; omega
 ·have e : fnd (fun x => stB true (tk ts x)) (plc (ends ts) tz fr) = fnd (fun x => brB (tk ts x) || seB (tk ts x)) (plc (ends ts) tz fr) := fnd_congr fun x _ => by unfold stB; simp
  have e2 := fnd_or (fun x => brB (tk ts x)) (fun x => seB (tk ts x)) hs
  have hne : ∀ x, ¬ (brB (tk ts x) = true /\ seB (tk ts x) = true) := fun x c => by
   have h1 := of_decide_eq_true c.1
   have h2 := of_decide_eq_true c.2
   omega
  have hd : fnd (fun x => brB (tk ts x)) (plc (ends ts) tz fr) ≠ -1 -> fnd (fun x => brB (tk ts x)) (plc (ends ts) tz fr) ≠ fnd (fun x => seB (tk ts x)) (plc (ends ts) tz fr) := fun h1 h2 => by
   obtain ⟨x, _, ex, hx⟩ := fnd_mem h1
   obtain ⟨y, _, ey, hy⟩ := fnd_mem (p := fun x => seB (tk ts x)) (l := plc (ends ts) tz fr) (by omega)
   have : x = y := by omega
   subst this
   exact hne x ⟨hx, hy⟩
  unfold firstR fo
  rw [e, e2]
  generalize fnd (fun x => brB (tk ts x)) (plc (ends ts) tz fr) = fa at *
  generalize fnd (fun x => seB (tk ts x)) (plc (ends ts) tz fr) = fb at *
  by_cases h1 : fa = -1
  ·rw [if_pos h1]
   by_cases h2 : fb = -1
   ·rw [if_pos (.inr (.inl (by omega))), if_pos (by omega), if_pos h2]
   ·rw [if_neg (by simp only [Bool.true_eq_false, false_or]; omega), if_neg h2]; omega
  ·have hne2 := hd h1
   rw [if_neg h1]
   by_cases h2 : fb = -1
   ·rw [if_pos h2, if_pos (.inr (.inl (by omega))), if_neg (by omega), if_neg h1]; omega
   ·rw [if_neg h2]
    by_cases h3 : fa < fb
    ·rw [if_pos (.inr (.inr ⟨by omega, h3⟩)), if_neg (by omega), if_neg (by omega)]; omega
    ·rw [if_neg (by simp only [Bool.true_eq_false, false_or]; omega), if_neg (by omega)]; omega
end Rl
def ToldT (us : List Tk.Tok) (w : World) (e : Ending) (w' : World) : Prop :=
 ∃ (A : Option Addr) (cap : Nat), e = .returned (.slice A us.length cap) /\ us.length <= cap /\ TsT w' A us /\ Below w.heap.size w w'
theorem cut_ts {ts : List Tk.Tok} {b off x y : Nat} {W : World} {B : Nat} (hy : y <= ts.length) (h : Ts W B (some ⟨b, off, none⟩) ts) : Ts W B (some ⟨b, off + x * 3, none⟩) (Rl.sub ts x y) := fun h0 => by
 rw [Rl.sub_len hy] at h0
 obtain ⟨b2, off2, e, hb, hc⟩ := h (by omega)
 injection e with e
 injection e with e1 e2
 subst e1 e2
 refine ⟨b, off + x * 3, rfl, hb, fun j hj => ?_⟩
 rw [Rl.sub_len hy] at hj
 rw [Rl.tk_sub hj]
 obtain ⟨c0, c1, c2⟩ := hc (x + j) (by omega)
 rw [show off + x * 3 + j * 3 = off + (x + j) * 3 by omega]
 exact ⟨c0, c1, c2⟩
theorem cut_run (ts : List Tk.Tok) (A : Option Addr) (ca x y : Nat) (hxy : x <= y) (hy : y <= ts.length) (hca : ts.length <= ca) : ∃ A2 : Option Addr,
 (∀ W, (Instr.sliceAt 32 (.slice A ts.length ca) (some (.int .i64 x)) (some (.int .i64 y)) none).run Tryz.prog W = .ok (.slice A2 (y - x) (ca - x)) W) /\ ∀ W B, Ts W B A ts -> Ts W B A2 (Rl.sub ts x y) := by
 refine ⟨if ca = x then A else A.map (·.add (x * 3)), fun W => ?_, fun W B h h0 => ?_⟩
 ·have hs : (sizeOf (Tryz.prog.elem 32)).run Tryz.prog W = .ok 3 W := by kernel_rfl
  have he : Tryz.prog.underlying 32 = some (.slice (Tryz.prog.elem 32)) := by kernel_rfl
  rw [run_sliceAt_slice W _ _ _ _ _ he, run_slice_lh W _ _ _ _ he _ _ _ _ (by omega) (by omega) (by omega), hs]
  simp [Result.andThen, sliced]
 ·have h1 := h0
  rw [Rl.sub_len hy] at h1
  obtain ⟨b, off, rfl, hb, hc⟩ := h (by omega)
  rw [if_neg (by omega)]
  have := cut_ts (x := x) hy h
  have e : (some (⟨b, off, none⟩ : Addr)).map (·.add (x * 3)) = some ⟨b, off + x * 3, none⟩ := by simp [Addr.add_lit]
  rw [e]
  exact this h0
theorem rcut_any (ts : List Tk.Tok) (hm : ts.length <= 65536) (A : Option Addr) (ca : Nat) (hca : ts.length <= ca) (fr tz : Nat) (hft : fr <= tz) (hto : tz <= ts.length) (w : World) (h : Ts w w.heap.size A ts) :
 Calls Tryz.prog 34 #[.slice A ts.length ca, .int .i64 fr, .int .i64 tz] w (ToldT (Rl.trim (Rl.sub ts fr tz)) w) := by
 have CT := Lib.hid (rtrim_any ts hm A ca fr tz hft hto w h)
 have hbd := Rl.cut_bd (ts := ts) hft
 have HV := Lib.hid (Rl.cut_trim hft hto)
 have H := Lib.hid h
 clear h
 generalize Ns.trB ts (Ns.trA ts tz fr) tz = y at *
 generalize Ns.trA ts tz fr = x at *
 have hxc : x <= ca := by omega
 have hyc : y <= ca := by omega
 obtain ⟨A2, hsl, hT⟩ := cut_run ts A ca x y hbd.2.1 (by omega) hca
 have HT := Lib.hid hT
 have hsn : (Rl.sub ts x y).length = y - x := Rl.sub_len (by omega)
 have h63 : 0 + (y - x) <= maxLen := by unfold maxLen; omega
 have hby : (0 + (y - x)) * 32 <= 140737488355328 := by omega
 obtain ⟨i0, hi, hz0, hz1, hz2⟩ := info_parts Tryz.infoTok
 have HSN := Lib.hid hsn
 have CR : Hid (∀ W, Below w.heap.size w W -> Rdc W A2 (y - x) 3 (Tk.cells (Rl.sub ts x y))) := Lib.hid fun W hb => by
  have := Rdc.of_ts (HT.out _ _ (H.out.next hb))
  rwa [HSN.out] at this
 clear hT hsn
 go_enter Tryz.func34, Tryz.ntmps34
 go_wp2_with (first | (at_builtin; refine app_all rfl _ _ 32 rfl i0 zTok 32 Tryz.underlying32 hi hz0 hz1 hz2 rfl (by decide) rfl (ow_empty w1 _ 3) A2 (y - x) (ca - x) (Tk.cells (Rl.sub ts x y)) rfl (CR.out _ (HB1.out.alloc HB1.out.size _)) (cells_ok _) h63 hby ?_; intro v' w3 H3; rw [Nat.zero_add, List.nil_append] at H3; have HO3 := Lib.hid H3; clear H3) | (go_at_call 63; ((with_reducible refine (CT.out).mono ?_); rintro e w1 ⟨rfl, b1⟩; have HB1 := Lib.hid b1; clear b1)))
 go_ret
 obtain ⟨A9, c9, rfl, hc9⟩ := HO3.out.form
 have ho := HO3.out.own
 rw [<- HSN.out] at ho hc9 ⊢
 refine ⟨A9, c9, by rw [<- HV.out]; rfl, by rw [<- HV.out]; exact hc9, ?_, below_next HB1.out HO3.out.bel⟩
 rw [<- HV.out]
 exact ⟨Ts.of_own ho, Rl.own_tyd ho⟩
def TzR (us : List Tk.Tok) : Prop := ∀ t ∈ us, t.2.1.size <= 90000
theorem TzR.at_ {us : List Tk.Tok} (h : TzR us) {j : Nat} (hj : j < us.length) : (Tk.tk us j).2.1.size <= 90000 := by rw [Tk.tk_eq hj]; exact h _ (List.getElem_mem hj)
theorem sub_mem {ts : List Tk.Tok} {a b : Nat} {t : Tk.Tok} (h : t ∈ Rl.sub ts a b) : t ∈ ts := List.mem_of_mem_take (List.mem_of_mem_drop h)
theorem trim_mem {ts : List Tk.Tok} {t : Tk.Tok} (h : t ∈ Rl.trim ts) : t ∈ ts := by
 obtain ⟨a, b, e, _, _⟩ := Rl.trim_part ts
 rw [e]; simp [h]
theorem trim_len (ts : List Tk.Tok) : (Rl.trim ts).length <= ts.length := by
 obtain ⟨a, b, e, _, _⟩ := Rl.trim_part ts
 have := congrArg List.length e
 simp only [List.length_append] at this
 omega
theorem sub_drop (v : List Tk.Tok) : Rl.sub v 0 (v.length - 1) = v.dropLast := by
 unfold Rl.sub; rw [List.drop_zero, List.dropLast_eq_take]
def ToldVB (r : List Tk.Tok × Bool) (w : World) (e : Ending) (w' : World) : Prop :=
 ∃ (A : Option Addr) (cap : Nat), e = .returned (.tuple #[.slice A r.1.length cap, .bool r.2]) /\ r.1.length <= cap /\ TsT w' A r.1 /\ Below w.heap.size w w'
theorem value_no {v : List Tk.Tok} (h : ¬ ((v ≠ [] /\ (Rl.lst v).1 = 2 /\ Ru.lowS (Rl.lst v).2.1 = Rl.impS) /\ Rl.trim v.dropLast ≠ [] /\ (Rl.lst (Rl.trim v.dropLast)).1 = 11 /\ (Rl.lst (Rl.trim v.dropLast)).2.1 = ⟨#[33]⟩)) : Rl.value v = (v, false) := by unfold Rl.value; rw [if_neg h]
theorem value_yes {v : List Tk.Tok} (h : (v ≠ [] /\ (Rl.lst v).1 = 2 /\ Ru.lowS (Rl.lst v).2.1 = Rl.impS) /\ Rl.trim v.dropLast ≠ [] /\ (Rl.lst (Rl.trim v.dropLast)).1 = 11 /\ (Rl.lst (Rl.trim v.dropLast)).2.1 = ⟨#[33]⟩) : Rl.value v = (Rl.trim (Rl.trim v.dropLast).dropLast, true) := by unfold Rl.value; rw [if_pos h]
theorem rvalue_any (v : List Tk.Tok) (hm : v.length <= 65536) (hz : TzR v) (A : Option Addr) (ca : Nat) (hca : v.length <= ca) (w : World) (hA : TsT w A v) :
 Calls Tryz.prog 119 #[.slice A v.length ca] w (ToldVB (Rl.value v) w) := by
 have h := hA.1
 have H := Lib.hid hA
 clear hA
 by_cases hv0 : v = []
 ·subst hv0
  have HV := Lib.hid (value_no (v := []) (fun c => c.1.1 rfl))
  simp only [List.length_nil]
  clear h
  go_enter Tryz.func119, Tryz.ntmps119
  go_wp2_with fail
  go_ret2
  rw [HV.out]
  exact ⟨A, ca, rfl, Nat.zero_le _, H.out, Below.refl _ _⟩
 ·have hpos : 0 < v.length := List.length_pos_iff.2 hv0
  obtain ⟨bb, off, rfl, hbb, hp⟩ := h hpos
  obtain ⟨p0, p1, _⟩ := hp (v.length - 1) (by omega)
  have hsz := hz.at_ (j := v.length - 1) (by omega)
  have hsub : IntKind.i64.wrap ((v.length : Int) - 1) = (v.length : Int) - 1 := IntWalk.i64_in _ (by omega)
  have hsn : ((v.length : Int) - 1).toNat = v.length - 1 := by omega
  have hsb : (0 : Int) <= (v.length : Int) - 1 := by omega
  have hsl : (v.length : Int) - 1 < (v.length : Int) := by omega
  have hs1 : (1 : Int) <= (v.length : Int) := by omega
  have e0 : (v.length == 0) = false := beq_false_of_ne (by omega)
  have e0i : ((v.length : Int) == 0) = false := beq_false_of_ne (by omega)
  have hlst : Tk.tk v (v.length - 1) = Rl.lst v := rfl
  rw [hlst] at p0 p1 hsz
  clear hp hlst
  by_cases hk : (Rl.lst v).1 = 2
  ·rw [hk] at p0
   have CL : Hid (Calls Tryz.prog 24 #[.string (Rl.lst v).2.1] w (Sg (Ru.lowS (Rl.lst v).2.1) w)) := Lib.hid (rlower_any _ hsz w)
   have hte := str_same (Ru.lowS (Rl.lst v).2.1) Rl.impS
   by_cases hi : Ru.lowS (Rl.lst v).2.1 = Rl.impS
   ·have CC : Hid (∀ W, Below w.heap.size w W -> Calls Tryz.prog 34 #[.slice (some ⟨bb, off, none⟩) v.length ca, .int .i64 0, .int .i64 ((v.length : Int) - 1)] W (ToldT (Rl.trim v.dropLast) W)) := Lib.hid fun W hb => by
     have := rcut_any v hm (some ⟨bb, off, none⟩) ca hca 0 (v.length - 1) (Nat.zero_le _) (by omega) W (H.out.1.next hb)
     rw [sub_drop] at this
     rwa [show ((v.length - 1 : Nat) : Int) = (v.length : Int) - 1 by omega] at this
    rw [hi] at CL
    have HV1 : Hid (∀ h : Rl.trim v.dropLast ≠ [] /\ (Rl.lst (Rl.trim v.dropLast)).1 = 11 /\ (Rl.lst (Rl.trim v.dropLast)).2.1 = ⟨#[33]⟩, Rl.value v = (Rl.trim (Rl.trim v.dropLast).dropLast, true)) := Lib.hid fun h => value_yes ⟨⟨hv0, hk, hi⟩, h⟩
    have HV2 : Hid (¬ (Rl.trim v.dropLast ≠ [] /\ (Rl.lst (Rl.trim v.dropLast)).1 = 11 /\ (Rl.lst (Rl.trim v.dropLast)).2.1 = ⟨#[33]⟩) -> Rl.value v = (v, false)) := Lib.hid fun h => value_no (fun c => h c.2)
    have hwm : (Rl.trim v.dropLast).length <= 65536 := by
     have h1 := trim_len v.dropLast
     have h2 := List.length_dropLast (xs := v)
     omega
    clear hte hk hi hsz
    generalize (Rl.lst v).2.1 = tx at *
    generalize Rl.trim v.dropLast = wl at *
    unfold Rl.impS at CL
    by_cases hw0 : wl = []
    ·have HV := Lib.hid (HV2.out fun c => c.1 hw0)
     subst hw0
     simp only [List.length_nil] at *
     go_enter Tryz.func119, Tryz.ntmps119
     go_wp2_with (first | (go_at_call 24; ((with_reducible refine (CL.out).mono ?_); rintro e w1 ⟨rfl, b1⟩; have HB1 := Lib.hid b1; clear b1)) | (go_at_call 34; ((with_reducible refine (CC.out _ HB1.out).mono ?_); rintro e w2 ⟨A2, c2, rfl, hc2, B2, b2⟩; have HB2 := Lib.hid (below_next HB1.out b2); have HT2 := Lib.hid B2.1; clear b2 B2)))
     go_ret2
     rw [HV.out]
     exact ⟨_, ca, rfl, hca, H.out.next HB2.out, HB2.out⟩
    ·have hwl : 0 < wl.length := List.length_pos_iff.2 hw0
     have hsub2 : IntKind.i64.wrap ((wl.length : Int) - 1) = (wl.length : Int) - 1 := IntWalk.i64_in _ (by omega)
     have hsn2 : ((wl.length : Int) - 1).toNat = wl.length - 1 := by omega
     have hsb2 : (0 : Int) <= (wl.length : Int) - 1 := by omega
     have hsl2 : (wl.length : Int) - 1 < (wl.length : Int) := by omega
     have hs12 : (1 : Int) <= (wl.length : Int) := by omega
     have f0 : (wl.length == 0) = false := beq_false_of_ne (by omega)
     have f0i : ((wl.length : Int) == 0) = false := beq_false_of_ne (by omega)
     have hlst : Hid (Tk.tk wl (wl.length - 1) = Rl.lst wl) := Lib.hid rfl
     have tok1 : True := trivial
     by_cases hk2 : (Rl.lst wl).1 = 11
     ·have HK2 := Lib.hid hk2
      by_cases ht2 : (Rl.lst wl).2.1 = ⟨#[33]⟩
      ·have HT9 := Lib.hid ht2
       have HV := Lib.hid (HV1.out ⟨hw0, hk2, ht2⟩)
       have CD : Hid (∀ (A : Option Addr) (c : Nat) (W : World), wl.length <= c -> Ts W W.heap.size A wl -> Calls Tryz.prog 34 #[.slice A wl.length c, .int .i64 0, .int .i64 ((wl.length : Int) - 1)] W (ToldT (Rl.trim wl.dropLast) W)) := Lib.hid fun A c W hc hT => by
        have := rcut_any wl hwm A c hc 0 (wl.length - 1) (Nat.zero_le _) (by omega) W hT
        rw [sub_drop] at this
        rwa [show ((wl.length - 1 : Nat) : Int) = (wl.length : Int) - 1 by omega] at this
       clear hk2 ht2 HV1 HV2 hw0 hv0
       go_enter Tryz.func119, Tryz.ntmps119
       go_wp2_with (first | (go_at_call 24; ((with_reducible refine (CL.out).mono ?_); rintro e w1 ⟨rfl, b1⟩; have HB1 := Lib.hid b1; clear b1)) | (go_at_call 34; have _t := tok1; ((with_reducible refine (CC.out _ HB1.out).mono ?_); rintro e w2 ⟨A2, c2, rfl, hc2, B2, b2⟩; have HB2 := Lib.hid (below_next HB1.out b2); have HT2 := Lib.hid B2.1; obtain ⟨b9, o9, rfl, _, hp9⟩ := B2.1 hwl; obtain ⟨r0, r1, _⟩ := hp9 (wl.length - 1) (by omega); rw [hlst.out, HK2.out] at r0; rw [hlst.out, HT9.out] at r1; clear b2 B2 hp9 tok1)) | (go_at_call 34; ((with_reducible refine (CD.out _ _ _ hc2 HT2.out).mono ?_); rintro e w3 ⟨A3, c3, rfl, hc3, B3, b3⟩; have HB3 := Lib.hid (below_next HB2.out b3); have HT3 := Lib.hid B3; clear b3 B3)))
       go_ret2
       rw [HV.out]
       exact ⟨A3, c3, rfl, hc3, HT3.out, HB3.out⟩
      ·have HV := Lib.hid (HV2.out fun c => ht2 c.2.2)
       have htb : ((Rl.lst wl).2.1.toList == [33]) = false := by rw [str_test]; exact decide_eq_false ht2
       clear hk2 ht2 HV1 HV2 hw0 hv0
       go_enter Tryz.func119, Tryz.ntmps119
       go_wp2_with (first | (go_at_call 24; ((with_reducible refine (CL.out).mono ?_); rintro e w1 ⟨rfl, b1⟩; have HB1 := Lib.hid b1; clear b1)) | (go_at_call 34; have _t := tok1; ((with_reducible refine (CC.out _ HB1.out).mono ?_); rintro e w2 ⟨A2, c2, rfl, hc2, B2, b2⟩; have HB2 := Lib.hid (below_next HB1.out b2); have HT2 := Lib.hid B2.1; obtain ⟨b9, o9, rfl, _, hp9⟩ := B2.1 hwl; obtain ⟨r0, r1, _⟩ := hp9 (wl.length - 1) (by omega); rw [hlst.out, HK2.out] at r0; rw [hlst.out] at r1; clear b2 B2 hp9 tok1)))
       go_ret2
       rw [HV.out]
       exact ⟨_, ca, rfl, hca, H.out.next HB2.out, HB2.out⟩
     ·have HV := Lib.hid (HV2.out fun c => hk2 c.2.1)
      have hkb : ((Rl.lst wl).1 == 11) = false := beq_false_of_ne hk2
      have hkn : ((Rl.lst wl).1 != 11) = true := Ru.ne_t hk2
      clear hk2 HV1 HV2 hw0 hv0
      go_enter Tryz.func119, Tryz.ntmps119
      go_wp2_with (first | (go_at_call 24; ((with_reducible refine (CL.out).mono ?_); rintro e w1 ⟨rfl, b1⟩; have HB1 := Lib.hid b1; clear b1)) | (go_at_call 34; have _t := tok1; ((with_reducible refine (CC.out _ HB1.out).mono ?_); rintro e w2 ⟨A2, c2, rfl, hc2, B2, b2⟩; have HB2 := Lib.hid (below_next HB1.out b2); have HT2 := Lib.hid B2.1; obtain ⟨b9, o9, rfl, _, hp9⟩ := B2.1 hwl; obtain ⟨r0, r1, _⟩ := hp9 (wl.length - 1) (by omega); rw [hlst.out] at r0 r1; clear b2 B2 hp9 tok1)))
      go_ret2
      rw [HV.out]
      exact ⟨_, ca, rfl, hca, H.out.next HB2.out, HB2.out⟩
   ·have HV := Lib.hid (value_no (v := v) (fun c => hi c.1.2.2))
    have htb : ((Ru.lowS (Rl.lst v).2.1).toList == Rl.impS.toList) = false := by rw [hte]; exact decide_eq_false hi
    clear hte hk hi hsz hv0
    generalize Ru.lowS (Rl.lst v).2.1 = lx at *
    generalize (Rl.lst v).2.1 = tx at *
    have htb2 : (lx.toList == [105, 109, 112, 111, 114, 116, 97, 110, 116]) = false := by
     rw [show Rl.impS.toList = [105, 109, 112, 111, 114, 116, 97, 110, 116] from by unfold Rl.impS; rw [Lib.toList_data]] at htb; exact htb
    clear htb
    go_enter Tryz.func119, Tryz.ntmps119
    go_wp2_with (go_at_call 24; ((with_reducible refine (CL.out).mono ?_); rintro e w1 ⟨rfl, b1⟩; have HB1 := Lib.hid b1; clear b1))
    go_ret2
    rw [HV.out]
    exact ⟨_, ca, rfl, hca, H.out.next HB1.out, HB1.out⟩
  ·have HV := Lib.hid (value_no (v := v) (fun c => hk c.1.2.1))
   have hkb : ((Rl.lst v).1 == 2) = false := beq_false_of_ne hk
   have hkn : ((Rl.lst v).1 != 2) = true := Ru.ne_t hk
   clear hk hsz hv0
   generalize (Rl.lst v).2.1 = tx at *
   generalize (Rl.lst v).1 = kx at *
   go_enter Tryz.func119, Tryz.ntmps119
   go_wp2_with fail
   go_ret2
   rw [HV.out]
   exact ⟨_, ca, rfl, hca, H.out, Below.refl _ _⟩
theorem closing_any (k : Int) (t : ByteArray) (n : Int) (w : World) : Calls Tryz.prog 52 #[tokV k t n] w (Sg (Ns.clo (k, t, n)) w) := by
 obtain ⟨W0, hW⟩ : ∃ W0, W0 = w.alloc (.cells #[.int .i64 k, .string t, .int .i64 n] 61) := ⟨_, rfl⟩
 have hb0 : Below w.heap.size w W0 := by rw [hW]; exact (Below.refl _ _).alloc (Nat.le_refl _) _
 have k0 : W0.heap[w.heap.size]? = some (.cells #[.int .i64 k, .string t, .int .i64 n] 61 (0, 0)) := by rw [hW]; exact heap_alloc_new w _
 obtain ⟨q0, q1, q2⟩ := tok3_cells k0
 have HB0 := Lib.hid hb0
 have HW := Lib.hid hW
 clear hb0 k0 hW
 unfold tokV
 by_cases h3 : k = 3
 ·subst h3
  have HV : Hid (Ns.clo (3, t, n) = ⟨#[41]⟩) := Lib.hid (by unfold Ns.clo; rw [if_pos (.inl rfl)])
  go_enter Tryz.func52, Tryz.ntmps52
  go_upto_region 1 with fail
  rw [<- HW.out]
  go_wp2_with fail
  go_ret
  exact ⟨by rw [HV.out]; rfl, HB0.out⟩
 ·have e3 : (k == 3) = false := beq_false_of_ne h3
  by_cases h12 : k = 12
  ·subst h12
   clear h3
   have cases4 : t = ⟨#[40]⟩ ∨ t = ⟨#[91]⟩ ∨ t = ⟨#[123]⟩ ∨ ((t.toList == [40]) = false /\ (t.toList == [91]) = false /\ (t.toList == [123]) = false) := by
    rw [str_test, str_test, str_test]
    by_cases a : t = ⟨#[40]⟩
    ·exact .inl a
    ·by_cases b : t = ⟨#[91]⟩
     ·exact .inr (.inl b)
     ·by_cases c : t = ⟨#[123]⟩
      ·exact .inr (.inr (.inl c))
      ·exact .inr (.inr (.inr ⟨decide_eq_false a, decide_eq_false b, decide_eq_false c⟩))
   have HV : Hid (t = ⟨#[40]⟩ ∨ t = ⟨#[91]⟩ ∨ t = ⟨#[123]⟩ ∨ Ns.clo (12, t, n) = ⟨#[]⟩) := Lib.hid (by
    rcases cases4 with h | h | h | ⟨h1, h2, h3⟩
    ·exact .inl h
    ·exact .inr (.inl h)
    ·exact .inr (.inr (.inl h))
    ·rw [str_test] at h1 h2 h3
     refine .inr (.inr (.inr ?_))
     unfold Ns.clo
     rw [if_neg (fun h => h.elim (fun h => by cases h) (fun h => of_decide_eq_false h1 h.2)), if_neg (fun h => of_decide_eq_false h2 h.2), if_neg (fun h => of_decide_eq_false h3 h.2)])
   rcases cases4 with rfl | rfl | rfl | ⟨e4, e5, e6⟩
   ·clear HV
    go_enter Tryz.func52, Tryz.ntmps52
    go_upto_region 1 with fail
    rw [<- HW.out]
    go_wp2_with fail
    go_ret
    exact ⟨rfl, HB0.out⟩
   ·clear HV
    go_enter Tryz.func52, Tryz.ntmps52
    go_upto_region 1 with fail
    rw [<- HW.out]
    go_wp2_with fail
    go_ret
    exact ⟨rfl, HB0.out⟩
   ·clear HV
    go_enter Tryz.func52, Tryz.ntmps52
    go_upto_region 1 with fail
    rw [<- HW.out]
    go_wp2_with fail
    go_ret
    exact ⟨rfl, HB0.out⟩
   ·have HV2 : Hid (Ns.clo (12, t, n) = ⟨#[]⟩) := Lib.hid (by
     rcases HV.out with h | h | h | h
     ·rw [str_test] at e4; exact absurd h (of_decide_eq_false e4)
     ·rw [str_test] at e5; exact absurd h (of_decide_eq_false e5)
     ·rw [str_test] at e6; exact absurd h (of_decide_eq_false e6)
     ·exact h)
    clear HV
    go_enter Tryz.func52, Tryz.ntmps52
    go_upto_region 1 with fail
    rw [<- HW.out]
    go_wp2_with fail
    go_ret
    exact ⟨by rw [HV2.out]; rfl, HB0.out⟩
  ·have e12 : (k == 12) = false := beq_false_of_ne h12
   have HV : Hid (Ns.clo (k, t, n) = ⟨#[]⟩) := Lib.hid (Ns.clo_none (Ns.not_O h3 h12))
   clear h3 h12
   go_enter Tryz.func52, Tryz.ntmps52
   go_upto_region 1 with fail
   rw [<- HW.out]
   go_wp2_with fail
   go_ret
   exact ⟨by rw [HV.out]; rfl, HB0.out⟩
theorem cell_kept {w W : World} {bk : Nat} {v : Value} (hb : Below w.heap.size w W) (hl : bk < w.heap.size) (h : w.cell? ⟨bk, 0, none⟩ = some v) : W.cell? ⟨bk, 0, none⟩ = some v := (hb.cell (p := ⟨bk, 0, none⟩) hl).trans h
theorem brace_test (t : ByteArray) : (t.toList == [123]) = decide (t = ⟨#[123]⟩) := str_test t 123
theorem isSemi_any (u : Tk.Tok) (w : World) : Calls Tryz.prog 142 #[.agg #[.int .i64 u.1, .string u.2.1, .int .i64 u.2.2]] w (Bo (Rl.seB u) w) := by
 obtain ⟨kd, t, n⟩ := u
 obtain ⟨W0, hW⟩ : ∃ W0, W0 = w.alloc (.cells #[.int .i64 kd, .string t, .int .i64 n] 61) := ⟨_, rfl⟩
 have hb0 : Below w.heap.size w W0 := by rw [hW]; exact (Below.refl _ _).alloc (Nat.le_refl _) _
 have k0 : W0.heap[w.heap.size]? = some (.cells #[.int .i64 kd, .string t, .int .i64 n] 61 (0, 0)) := by rw [hW]; exact heap_alloc_new w _
 obtain ⟨p0, p1, p2⟩ := tok3_cells k0
 have HB0 := Lib.hid hb0
 have HW := Lib.hid hW.symm
 clear hb0 k0 hW
 by_cases hk : kd = 15
 ·have HV : Hid (Rl.seB (kd, t, n) = true) := Lib.hid (decide_eq_true hk)
  rw [hk] at p0
  clear hk
  go_enter Tryz.func142, Tryz.ntmps142
  go_upto_region 1 with fail
  rw [HW.out]
  clear HW
  go_wp2_with fail
  go_ret
  exact ⟨by rw [HV.out]; rfl, HB0.out⟩
 ·have HV : Hid (Rl.seB (kd, t, n) = false) := Lib.hid (decide_eq_false hk)
  have e : (kd == 15) = false := beq_false_of_ne hk
  clear hk
  go_enter Tryz.func142, Tryz.ntmps142
  go_upto_region 1 with fail
  rw [HW.out]
  clear HW
  go_wp2_with fail
  go_ret
  exact ⟨by rw [HV.out]; rfl, HB0.out⟩
theorem opensBlock_any (u : Tk.Tok) (w : World) : Calls Tryz.prog 100 #[.agg #[.int .i64 u.1, .string u.2.1, .int .i64 u.2.2]] w (Bo (Rl.brB u) w) := by
 obtain ⟨kd, t, n⟩ := u
 obtain ⟨W0, hW⟩ : ∃ W0, W0 = w.alloc (.cells #[.int .i64 kd, .string t, .int .i64 n] 61) := ⟨_, rfl⟩
 have hb0 : Below w.heap.size w W0 := by rw [hW]; exact (Below.refl _ _).alloc (Nat.le_refl _) _
 have k0 : W0.heap[w.heap.size]? = some (.cells #[.int .i64 kd, .string t, .int .i64 n] 61 (0, 0)) := by rw [hW]; exact heap_alloc_new w _
 obtain ⟨p0, p1, p2⟩ := tok3_cells k0
 have HB0 := Lib.hid hb0
 have HW := Lib.hid hW.symm
 clear hb0 k0 hW
 by_cases hk : kd = 12
 ·by_cases ht : t = ⟨#[123]⟩
  ·have HV : Hid (Rl.brB (kd, t, n) = true) := Lib.hid (decide_eq_true ⟨hk, ht⟩)
   have e2 : (t.toList == [123]) = true := by rw [brace_test]; exact decide_eq_true ht
   rw [hk] at p0
   clear hk ht
   go_enter Tryz.func100, Tryz.ntmps100
   go_upto_region 1 with fail
   rw [HW.out]
   clear HW
   go_wp2_with fail
   go_ret
   exact ⟨by rw [HV.out]; rfl, HB0.out⟩
  ·have HV : Hid (Rl.brB (kd, t, n) = false) := Lib.hid (decide_eq_false (fun c => ht c.2))
   have e2 : (t.toList == [123]) = false := by rw [brace_test]; exact decide_eq_false ht
   rw [hk] at p0
   clear hk ht
   go_enter Tryz.func100, Tryz.ntmps100
   go_upto_region 1 with fail
   rw [HW.out]
   clear HW
   go_wp2_with fail
   go_ret
   exact ⟨by rw [HV.out]; rfl, HB0.out⟩
 ·have HV : Hid (Rl.brB (kd, t, n) = false) := Lib.hid (decide_eq_false (fun c => hk c.1))
  have e : (kd == 12) = false := beq_false_of_ne hk
  clear hk
  go_enter Tryz.func100, Tryz.ntmps100
  go_upto_region 1 with fail
  rw [HW.out]
  clear HW
  go_wp2_with fail
  go_ret
  exact ⟨by rw [HV.out]; rfl, HB0.out⟩
theorem ending1_any (u : Tk.Tok) (bk : Nat) (kd : Int) (w : World) (hl : bk < w.heap.size) (h : w.cell? ⟨bk, 0, none⟩ = some (.int .i64 kd)) :
 Calls Tryz.prog 144 #[.agg #[.int .i64 u.1, .string u.2.1, .int .i64 u.2.2], .pointer (some ⟨bk, 0, none⟩)] w (Bo (Rl.stB (decide (kd = 4)) u) w) := by
 have CO : Hid (∀ W, Calls Tryz.prog 100 #[.agg #[.int .i64 u.1, .string u.2.1, .int .i64 u.2.2]] W (Bo (Rl.brB u) W)) := Lib.hid fun W => opensBlock_any u W
 have CM : Hid (∀ W, Calls Tryz.prog 142 #[.agg #[.int .i64 u.1, .string u.2.1, .int .i64 u.2.2]] W (Bo (Rl.seB u) W)) := Lib.hid fun W => isSemi_any u W
 have HV : Hid (Rl.stB (decide (kd = 4)) u = (Rl.brB u || (decide (kd = 4) && Rl.seB u))) := Lib.hid rfl
 generalize Rl.stB (decide (kd = 4)) u = st at *
 generalize Rl.brB u = br at *
 generalize Rl.seB u = se at *
 obtain ⟨uk, t, n⟩ := u
 obtain ⟨W0, hW⟩ : ∃ W0, W0 = w.alloc (.cells #[.int .i64 uk, .string t, .int .i64 n] 61) := ⟨_, rfl⟩
 have hb0 : Below w.heap.size w W0 := by rw [hW]; exact (Below.refl _ _).alloc (Nat.le_refl _) _
 have k0 : W0.heap[w.heap.size]? = some (.cells #[.int .i64 uk, .string t, .int .i64 n] 61 (0, 0)) := by rw [hW]; exact heap_alloc_new w _
 have hs0 : w.heap.size < W0.heap.size := by rw [hW]; simp
 have q0 := cell_kept hb0 hl h
 have hl0 := Nat.lt_of_lt_of_le hl hb0.size
 obtain ⟨p0, p1, p2⟩ := tok3_cells k0
 have HB0 := Lib.hid hb0
 have HW := Lib.hid hW.symm
 clear hb0 k0 hW h hl
 simp only at CO CM
 cases br
 ·by_cases hk : kd = 4
  ·rw [decide_eq_true hk] at HV
   rw [hk] at q0
   clear hk
   go_enter Tryz.func144, Tryz.ntmps144
   go_upto_region 1 with fail
   rw [HW.out]
   clear HW
   go_wp2_with (first | (go_at_call 100; ((with_reducible refine (CO.out _).mono ?_); rintro e w1 ⟨rfl, b1⟩; have HB1 := Lib.hid (below_next HB0.out b1); have r0 := (b1.cell (p := ⟨bk, 0, none⟩) hl0).trans q0; have s0 := (b1.cell (p := ⟨w.heap.size, 0, none⟩) hs0).trans p0; have s1 := (b1.cell (p := ⟨w.heap.size, 1, none⟩) hs0).trans p1; have s2 := (b1.cell (p := ⟨w.heap.size, 2, none⟩) hs0).trans p2; clear b1)) | (go_at_call 142; ((with_reducible refine (CM.out _).mono ?_); rintro e w2 ⟨rfl, b2⟩; have HB2 := Lib.hid (below_next HB1.out b2); clear b2)))
   go_ret
   exact ⟨by rw [HV.out]; cases se <;> rfl, HB2.out⟩
  ·rw [decide_eq_false hk] at HV
   have e4 : (kd == 4) = false := beq_false_of_ne hk
   clear hk
   go_enter Tryz.func144, Tryz.ntmps144
   go_upto_region 1 with fail
   rw [HW.out]
   clear HW
   go_wp2_with (go_at_call 100; ((with_reducible refine (CO.out _).mono ?_); rintro e w1 ⟨rfl, b1⟩; have HB1 := Lib.hid (below_next HB0.out b1); have r0 := (b1.cell (p := ⟨bk, 0, none⟩) hl0).trans q0; clear b1))
   go_ret
   exact ⟨by rw [HV.out]; rfl, HB1.out⟩
 ·go_enter Tryz.func144, Tryz.ntmps144
  go_upto_region 1 with fail
  rw [HW.out]
  clear HW
  go_wp2_with (go_at_call 100; ((with_reducible refine (CO.out _).mono ?_); rintro e w1 ⟨rfl, b1⟩; have HB1 := Lib.hid (below_next HB0.out b1); clear b1))
  go_ret
  exact ⟨by rw [HV.out]; rfl, HB1.out⟩
abbrev endV (bk : Nat) : Value := .func (Fn.func 144) #[] #[.pointer (some ⟨bk, 0, none⟩)]
theorem ending_any (kd : Int) (w : World) : Calls Tryz.prog 80 #[.int .i64 kd] w fun e w' => e = .returned (endV w.heap.size) /\ w.heap.size < w'.heap.size /\ w'.cell? ⟨w.heap.size, 0, none⟩ = some (.int .i64 kd) /\ Below w.heap.size w w' := by
 have hmf : ∀ (fn : Fn) (first cap : Array Value) (w : World), (Instr.makeFunc fn first cap).run Tryz.prog w = .ok (.func fn first cap) w := fun _ _ _ _ => rfl
 go_enter Tryz.func80, Tryz.ntmps80
 go_wp2_with fail
 go_ret
 exact ⟨rfl, by simp, by rw [World.cell?_alloc_mark]; rfl, (Below.refl _ _).alloc (Nat.le_refl _) _⟩
abbrev shV (A : Option Addr) (n ca : Nat) (C : Option Addr) (m cc : Nat) : Value := .agg #[.slice A n ca, .slice C m cc]
structure Sh (ts : List Tk.Tok) (A : Option Addr) (ca : Nat) (C : Option Addr) (w : World) : Prop where
 hts : Ts w w.heap.size A ts
 hes : Bs w w.heap.size .i64 C (Ns.ends ts)
 hca : ts.length <= ca
theorem Sh.next {ts : List Tk.Tok} {A C : Option Addr} {ca : Nat} {w w1 : World} (h : Sh ts A ca C w) (hb : Below w.heap.size w w1) : Sh ts A ca C w1 := ⟨h.hts.next hb, h.hes.next hb, h.hca⟩
theorem sh_cells {w : World} {k : Nat} {x0 x1 : Value} {E : TypeId} (h : w.heap[k]? = some (.cells #[x0, x1] E (0, 0))) : w.cell? ⟨k, 0, none⟩ = some x0 /\ w.cell? ⟨k, 1, none⟩ = some x1 := by
 refine ⟨?_, ?_⟩ <;> simp [World.cell?, h]
theorem tk_size {ts : List Tk.Tok} (hF : Pr.FairB ts) {a : Nat} (ha : a < ts.length) : (Tk.tk ts a).2.1.size <= 90000 := hF.2 a ha
theorem part_any (ts : List Tk.Tok) (hm : ts.length <= 65536) (A : Option Addr) (ca : Nat) (hca : ts.length <= ca) (x y : Nat) (hxy : x <= y) (hy : y <= ts.length) (w : World) (h : Ts w w.heap.size A ts) :
 Calls Tryz.prog 166 #[.slice A ts.length ca, .int .i64 x, .int .i64 y] w (ToldT (Rl.sub ts x y) w) := by
 have H := Lib.hid h
 clear h
 have hxc : x <= ca := by omega
 have hyc : y <= ca := by omega
 obtain ⟨A2, hsl, hT⟩ := cut_run ts A ca x y hxy hy hca
 have HT := Lib.hid hT
 have hsn : (Rl.sub ts x y).length = y - x := Rl.sub_len (by omega)
 have h63 : 0 + (y - x) <= maxLen := by unfold maxLen; omega
 have hby : (0 + (y - x)) * 32 <= 140737488355328 := by omega
 obtain ⟨i0, hi, hz0, hz1, hz2⟩ := info_parts Tryz.infoTok
 have HSN := Lib.hid hsn
 have CR : Hid (∀ W, Below w.heap.size w W -> Rdc W A2 (y - x) 3 (Tk.cells (Rl.sub ts x y))) := Lib.hid fun W hb => by
  have := Rdc.of_ts (HT.out _ _ (H.out.next hb))
  rwa [HSN.out] at this
 have HO : Hid (Ow 61 3 w (.slice none 0 0) 0 [] w) := Lib.hid (Ow.start _ _ (Below.refl _ _))
 clear hT hsn
 go_enter Tryz.func166, Tryz.ntmps166
 go_wp2_with (at_builtin; refine app_all rfl _ _ 32 rfl i0 zTok 32 Tryz.underlying32 hi hz0 hz1 hz2 rfl (by decide) rfl HO.out A2 (y - x) (ca - x) (Tk.cells (Rl.sub ts x y)) rfl (CR.out _ (Below.refl _ _)) (cells_ok _) h63 hby ?_; intro v' w3 H3; rw [Nat.zero_add, List.nil_append] at H3; have HO3 := Lib.hid H3; clear H3)
 go_ret
 obtain ⟨A9, c9, rfl, hc9⟩ := HO3.out.form
 have ho := HO3.out.own
 rw [<- HSN.out] at ho hc9 ⊢
 exact ⟨A9, c9, rfl, hc9, ⟨Ts.of_own ho, Rl.own_tyd ho⟩, HO3.out.bel⟩
theorem spart_any (ts : List Tk.Tok) (hm : ts.length <= 65536) (A C : Option Addr) (ca cc : Nat) (x y : Nat) (hxy : x <= y) (hy : y <= ts.length) (w : World) (h : Sh ts A ca C w) :
 Calls Tryz.prog 102 #[shV A ts.length ca C (Ns.ends ts).length cc, .int .i64 x, .int .i64 y] w (ToldT (Rl.sub ts x y) w) := by
 obtain ⟨W0, hW⟩ : ∃ W0, W0 = w.alloc (.cells #[.slice A ts.length ca, .slice C (Ns.ends ts).length cc] 58) := ⟨_, rfl⟩
 have hb0 : Below w.heap.size w W0 := by rw [hW]; exact (Below.refl _ _).alloc (Nat.le_refl _) _
 have k0 : W0.heap[w.heap.size]? = some (.cells #[.slice A ts.length ca, .slice C (Ns.ends ts).length cc] 58 (0, 0)) := by rw [hW]; exact heap_alloc_new w _
 obtain ⟨p0, p1⟩ := sh_cells k0
 have CP := Lib.hid (part_any ts hm A ca h.hca x y hxy hy W0 (h.next hb0).hts)
 have HB0 := Lib.hid hb0
 have HW := Lib.hid hW.symm
 clear hb0 k0 hW h
 generalize Rl.sub ts x y = us at *
 unfold shV
 go_enter Tryz.func102, Tryz.ntmps102
 go_upto_region 1 with fail
 rw [HW.out]
 clear HW
 go_wp2_with (go_at_call 166; ((with_reducible refine (CP.out).mono ?_); rintro e w1 ⟨A1, c1, rfl, hc1, T1, b1⟩; have HB1 := Lib.hid (below_next HB0.out b1); have HT := Lib.hid T1; clear b1 T1))
 go_ret
 exact ⟨A1, c1, rfl, hc1, HT.out, HB1.out⟩
theorem sname_any (ts : List Tk.Tok) (hF : Pr.FairB ts) (A C : Option Addr) (ca cc : Nat) (a : Nat) (ha : a < ts.length) (w : World) (h : Sh ts A ca C w) :
 Calls Tryz.prog 101 #[shV A ts.length ca C (Ns.ends ts).length cc, .int .i64 a] w (Sg (Ru.lowS (Tk.tk ts a).2.1) w) := by
 obtain ⟨W0, hW⟩ : ∃ W0, W0 = w.alloc (.cells #[.slice A ts.length ca, .slice C (Ns.ends ts).length cc] 58) := ⟨_, rfl⟩
 have hb0 : Below w.heap.size w W0 := by rw [hW]; exact (Below.refl _ _).alloc (Nat.le_refl _) _
 have k0 : W0.heap[w.heap.size]? = some (.cells #[.slice A ts.length ca, .slice C (Ns.ends ts).length cc] 58 (0, 0)) := by rw [hW]; exact heap_alloc_new w _
 obtain ⟨p0, p1⟩ := sh_cells k0
 have CP := Lib.hid (lower_any (Tk.tk ts a).2.1 W0 (tk_size hF ha))
 obtain ⟨b, off, rfl, hb, hc⟩ := (h.next hb0).hts (by omega)
 obtain ⟨q0, q1, q2⟩ := hc a ha
 have HB0 := Lib.hid hb0
 have HW := Lib.hid hW.symm
 have hm := hF.1
 clear hb0 k0 hW h hc hF
 generalize Ru.lowS (Tk.tk ts a).2.1 = lo at *
 generalize Tk.tk ts a = u at *
 unfold shV
 go_enter Tryz.func101, Tryz.ntmps101
 go_upto_region 1 with fail
 rw [HW.out]
 clear HW
 go_wp2_with (go_at_call 43; ((with_reducible refine (CP.out).mono ?_); rintro e w1 ⟨rfl, b1⟩; have HB1 := Lib.hid (below_next HB0.out b1); clear b1))
 go_ret
 exact ⟨rfl, HB1.out⟩
end Go.Proofs.YtkcabpjfgbghjaaGreatDoor
namespace Go.Proofs.YtkcabpjfgbghjaaGreatDoor
open Go.Lib Go.Joins Go.Deep
open Go.ChangeShapes Go.WideShapes Go.ChangeAt Go.RowKit Go.WideMaps Go.WideElems
open Go.ChangeMaps (setBlock shut_map_nil open_string shut_string)
namespace Rl
section
variable {H : Type} {enc : TypeId × Value -> H} {P : Program}
def BoolR (_ : World) (b : Bool) (cs : List Value) : Prop := cs = [.bool b]
variable {α β γ δ : Type} {Ra : World -> α -> List Value -> Prop} {Rb : World -> β -> List Value -> Prop} {Rc : World -> γ -> List Value -> Prop} {Rd : World -> δ -> List Value -> Prop}
def St2 (Ra : World -> α -> List Value -> Prop) (Rb : World -> β -> List Value -> Prop) (W : World) (u : α × β) (cs : List Value) : Prop := ∃ a b, cs = [a, b] /\ Ra W u.1 [a] /\ Rb W u.2 [b]
def St3 (Ra : World -> α -> List Value -> Prop) (Rb : World -> β -> List Value -> Prop) (Rc : World -> γ -> List Value -> Prop) (W : World) (u : α × β × γ) (cs : List Value) : Prop := ∃ a b c, cs = [a, b, c] /\ Ra W u.1 [a] /\ Rb W u.2.1 [b] /\ Rc W u.2.2 [c]
def St4 (Ra : World -> α -> List Value -> Prop) (Rb : World -> β -> List Value -> Prop) (Rc : World -> γ -> List Value -> Prop) (Rd : World -> δ -> List Value -> Prop) (W : World) (u : α × β × γ × δ) (cs : List Value) : Prop := ∃ a b c d, cs = [a, b, c, d] /\ Ra W u.1 [a] /\ Rb W u.2.1 [b] /\ Rc W u.2.2.1 [c] /\ Rd W u.2.2.2 [d]
def Cells (sz : Nat) (Ra : World -> α -> List Value -> Prop) (W : World) (A : Option Addr) (us : List α) : Prop :=
 0 < us.length -> ∃ b off, A = some ⟨b, off, none⟩ /\ b < W.heap.size /\ ∀ j (hj : j < us.length), ∃ cs, cs.length = sz /\ Ra W us[j] cs /\ ∀ i x, cs[i]? = some x -> W.cell? ⟨b, off + j * sz + i, none⟩ = some x
end
end Rl
end Go.Proofs.YtkcabpjfgbghjaaGreatDoor
namespace Go.Proofs.YtkcabpjfgbghjaaGreatDoor
open Go.RowKit
namespace Rl
open Tk
def IntQ (_ : World) (n : Int) (cs : List Value) : Prop := cs = [.int .i64 n]
def StrQ (_ : World) (s : ByteArray) (cs : List Value) : Prop := cs = [.string s]
def SlQ {α : Type} (oE : Option TypeId) (sz : Nat) (Ra : World -> α -> List Value -> Prop) (W : World) (us : List α) (cs : List Value) : Prop :=
 ∃ (A : Option Addr) (cap : Nat), cs = [.slice A us.length cap] /\ us.length <= cap /\ Cells sz Ra W A us /\ Tyd oE W A
def TokQ : World -> Tok -> List Value -> Prop := St3 IntQ StrQ IntQ
def ty (t : Bool) (E : TypeId) : Option TypeId := if t = true then some E else none
def DecQ (t : Bool) : World -> Decl -> List Value -> Prop := St3 StrQ (SlQ (ty t 61) 3 TokQ) BoolR
def MarQ (t : Bool) : World -> Margin -> List Value -> Prop := St2 StrQ (SlQ (ty t 42) 3 (DecQ t))
def RulQ (t : Bool) : World -> Rule -> List Value -> Prop := St4 IntQ (SlQ (ty t 61) 3 TokQ) (SlQ (ty t 42) 3 (DecQ t)) (SlQ (ty t 49) 2 (MarQ t))
def Keeps {α : Type} (R : World -> α -> List Value -> Prop) : Prop := ∀ w w1 u cs, R w u cs -> Below w.heap.size w w1 -> R w1 u cs
section
variable {α β γ δ : Type} {Ra : World -> α -> List Value -> Prop} {Rb : World -> β -> List Value -> Prop} {Rc : World -> γ -> List Value -> Prop} {Rd : World -> δ -> List Value -> Prop}
theorem keeps_int : Keeps IntQ := fun _ _ _ _ h _ => h
theorem keeps_str : Keeps StrQ := fun _ _ _ _ h _ => h
theorem keeps_bool : Keeps BoolR := fun _ _ _ _ h _ => h
theorem keeps_st2 (ha : Keeps Ra) (hb : Keeps Rb) : Keeps (St2 Ra Rb) := fun _ _ _ _ ⟨a, b, e, h1, h2⟩ hw => ⟨a, b, e, ha _ _ _ _ h1 hw, hb _ _ _ _ h2 hw⟩
theorem keeps_st3 (ha : Keeps Ra) (hb : Keeps Rb) (hc : Keeps Rc) : Keeps (St3 Ra Rb Rc) := fun _ _ _ _ ⟨a, b, c, e, h1, h2, h3⟩ hw => ⟨a, b, c, e, ha _ _ _ _ h1 hw, hb _ _ _ _ h2 hw, hc _ _ _ _ h3 hw⟩
theorem keeps_st4 (ha : Keeps Ra) (hb : Keeps Rb) (hc : Keeps Rc) (hd : Keeps Rd) : Keeps (St4 Ra Rb Rc Rd) := fun _ _ _ _ ⟨a, b, c, d, e, h1, h2, h3, h4⟩ hw => ⟨a, b, c, d, e, ha _ _ _ _ h1 hw, hb _ _ _ _ h2 hw, hc _ _ _ _ h3 hw, hd _ _ _ _ h4 hw⟩
theorem cells_next {sz : Nat} (ha : Keeps Ra) {w w1 : World} {A : Option Addr} {us : List α} (h : Cells sz Ra w A us) (hw : Below w.heap.size w w1) : Cells sz Ra w1 A us := fun h0 => by
 obtain ⟨b, off, e, hb, hc⟩ := h h0
 refine ⟨b, off, e, Nat.lt_of_lt_of_le hb hw.size, fun j hj => ?_⟩
 obtain ⟨cs, h1, h2, h3⟩ := hc j hj
 exact ⟨cs, h1, ha _ _ _ _ h2 hw, fun i x hx => (hw.cell (p := ⟨b, off + j * sz + i, none⟩) hb).trans (h3 i x hx)⟩
theorem keeps_sl {oE : Option TypeId} {sz : Nat} (ha : Keeps Ra) : Keeps (SlQ oE sz Ra) := fun _ _ _ _ ⟨A, cap, e, hc, h, ht⟩ hw => ⟨A, cap, e, hc, cells_next ha h hw, tyd_next ht hw⟩
theorem keeps_tok : Keeps TokQ := keeps_st3 keeps_int keeps_str keeps_int
theorem keeps_dec (t : Bool) : Keeps (DecQ t) := keeps_st3 keeps_str (keeps_sl keeps_tok) keeps_bool
theorem keeps_mar (t : Bool) : Keeps (MarQ t) := keeps_st2 keeps_str (keeps_sl (keeps_dec t))
theorem keeps_rul (t : Bool) : Keeps (RulQ t) := keeps_st4 keeps_int (keeps_sl keeps_tok) (keeps_sl (keeps_dec t)) (keeps_sl (keeps_mar t))
def Only (E : TypeId) (g : Option Nat) (w w1 : World) : Prop := w.heap.size <= w1.heap.size /\ ∀ (b : Nat) (cs : Array Value) (T : TypeId) (fz : Nat × Nat), w.heap[b]? = some (.cells cs T fz) -> T ≠ E ∨ g ≠ some b -> w1.heap[b]? = w.heap[b]?
def KeepsT (E : TypeId) {α : Type} (R : World -> α -> List Value -> Prop) : Prop := ∀ g w w1 u cs, R w u cs -> Only E g w w1 -> R w1 u cs
section
variable {E : TypeId}
theorem kT_int : KeepsT E IntQ := fun _ _ _ _ _ h _ => h
theorem kT_str : KeepsT E StrQ := fun _ _ _ _ _ h _ => h
theorem kT_bool : KeepsT E BoolR := fun _ _ _ _ _ h _ => h
theorem kT_st2 (ha : KeepsT E Ra) (hb : KeepsT E Rb) : KeepsT E (St2 Ra Rb) := fun _ _ _ _ _ ⟨a, b, e, h1, h2⟩ hw => ⟨a, b, e, ha _ _ _ _ _ h1 hw, hb _ _ _ _ _ h2 hw⟩
theorem kT_st3 (ha : KeepsT E Ra) (hb : KeepsT E Rb) (hc : KeepsT E Rc) : KeepsT E (St3 Ra Rb Rc) := fun _ _ _ _ _ ⟨a, b, c, e, h1, h2, h3⟩ hw => ⟨a, b, c, e, ha _ _ _ _ _ h1 hw, hb _ _ _ _ _ h2 hw, hc _ _ _ _ _ h3 hw⟩
theorem kT_st4 (ha : KeepsT E Ra) (hb : KeepsT E Rb) (hc : KeepsT E Rc) (hd : KeepsT E Rd) : KeepsT E (St4 Ra Rb Rc Rd) := fun _ _ _ _ _ ⟨a, b, c, d, e, h1, h2, h3, h4⟩ hw => ⟨a, b, c, d, e, ha _ _ _ _ _ h1 hw, hb _ _ _ _ _ h2 hw, hc _ _ _ _ _ h3 hw, hd _ _ _ _ _ h4 hw⟩
theorem kT_sl {E' : TypeId} {sz : Nat} (hne : E' ≠ E) (ha : KeepsT E Ra) : KeepsT E (SlQ (some E') sz Ra) := fun g w w1 us cs ⟨A, cap, e, hc, h, ht⟩ hw => by
 refine ⟨A, cap, e, hc, fun h0 => ?_, fun E1 hE b off hA => ?_⟩
 ·obtain ⟨b, off, hA, hb, hcell⟩ := h h0
  obtain ⟨ks, fz, hk⟩ := ht E' rfl b off hA
  have hsame := hw.2 b ks E' fz hk (.inl hne)
  refine ⟨b, off, hA, Nat.lt_of_lt_of_le hb hw.1, fun j hj => ?_⟩
  obtain ⟨ys, h1, h2, h3⟩ := hcell j hj
  exact ⟨ys, h1, ha _ _ _ _ _ h2 hw, fun i x hx => (World.cell?_of_block (a := ⟨b, off + j * sz + i, none⟩) hsame).trans (h3 i x hx)⟩
 ·injection hE with hE
  subst hE
  obtain ⟨ks, fz, hk⟩ := ht E' rfl b off hA
  exact ⟨ks, fz, (hw.2 b ks E' fz hk (.inl hne)).trans hk⟩
theorem kT_tok : KeepsT E TokQ := kT_st3 kT_int kT_str kT_int
end
theorem kT_dec : KeepsT 42 (DecQ true) := kT_st3 kT_str (kT_sl (by decide) kT_tok) kT_bool
theorem kT_dec2 {E : TypeId} (h : 61 ≠ E) : KeepsT E (DecQ true) := kT_st3 kT_str (kT_sl h kT_tok) kT_bool
theorem kT_mar2 {E : TypeId} (h : 61 ≠ E) (h2 : 42 ≠ E) : KeepsT E (MarQ true) := kT_st2 kT_str (kT_sl h2 (kT_dec2 h))
theorem kT_rul : KeepsT 47 (RulQ true) := kT_st4 kT_int (kT_sl (by decide) kT_tok) (kT_sl (by decide) (kT_dec2 (by decide))) (kT_sl (by decide) (kT_mar2 (by decide) (by decide)))
theorem cells_nil {sz : Nat} {W : World} {A : Option Addr} : Cells sz Ra W A [] := fun h => by simp at h
theorem cells_ts {W : World} {A : Option Addr} {us : List Tok} (h : Ts W W.heap.size A us) : Cells 3 TokQ W A us := fun h0 => by
 obtain ⟨b, off, e, hb, hc⟩ := h h0
 refine ⟨b, off, e, hb, fun j hj => ?_⟩
 obtain ⟨c0, c1, c2⟩ := hc j hj
 rw [tk_eq hj] at c0 c1 c2
 refine ⟨[.int .i64 us[j].1, .string us[j].2.1, .int .i64 us[j].2.2], rfl, ⟨_, _, _, rfl, rfl, rfl, rfl⟩, fun i x hx => ?_⟩
 match i, hx with
 | 0, hx => obtain rfl : Value.int .i64 us[j].1 = x := by simpa using hx
            exact c0
 | 1, hx => obtain rfl : Value.string us[j].2.1 = x := by simpa using hx
            exact c1
 | 2, hx => obtain rfl : Value.int .i64 us[j].2.2 = x := by simpa using hx
            exact c2
 | i + 3, hx => simp at hx
theorem ts_cells {W : World} {A : Option Addr} {us : List Tok} (h : Cells 3 TokQ W A us) : Ts W W.heap.size A us := fun h0 => by
 obtain ⟨b, off, e, hb, hc⟩ := h h0
 refine ⟨b, off, e, hb, fun j hj => ?_⟩
 obtain ⟨cs, _, ⟨a, b1, c, e1, ea, eb, ec⟩, h3⟩ := hc j hj
 injection ea with ea
 injection eb with eb
 injection ec with ec
 subst e1 ea eb ec
 rw [tk_eq hj]
 exact ⟨h3 0 _ rfl, h3 1 _ rfl, h3 2 _ rfl⟩
def Rds (sz : Nat) (Ra : World -> α -> List Value -> Prop) (W : World) (xs : List Value) (us : List α) : Prop :=
 xs.length = us.length * sz /\ ∀ j (hj : j < us.length), Ra W us[j] ((xs.drop (j * sz)).take sz)
theorem rds_nil {sz : Nat} {W : World} : Rds sz Ra W [] [] := ⟨by simp, fun j hj => by simp at hj⟩
theorem rds_next {sz : Nat} (ha : Keeps Ra) {w w1 : World} {xs : List Value} {us : List α} (h : Rds sz Ra w xs us) (hw : Below w.heap.size w w1) : Rds sz Ra w1 xs us := ⟨h.1, fun j hj => ha _ _ _ _ (h.2 j hj) hw⟩
theorem rds_app {sz : Nat} {w : World} {xs cs : List Value} {us : List α} {u : α} (h : Rds sz Ra w xs us) (hu : Ra w u cs) (hl : cs.length = sz) : Rds sz Ra w (xs ++ cs) (us ++ [u]) := by
 refine ⟨by rw [List.length_append, h.1, hl, List.length_append, List.length_singleton, Nat.add_mul, Nat.one_mul], fun j hj => ?_⟩
 rw [List.length_append, List.length_singleton] at hj
 by_cases hlt : j < us.length
 ·have h1 := h.2 j hlt
  rw [List.getElem_append_left hlt]
  have hm : j * sz + sz <= us.length * sz := by rw [<- Nat.succ_mul]; exact Nat.mul_le_mul_right _ hlt
  have e : ((xs ++ cs).drop (j * sz)).take sz = (xs.drop (j * sz)).take sz := by
   rw [List.drop_append_of_le_length (by rw [h.1]; omega), List.take_append_of_le_length (by rw [List.length_drop, h.1]; omega)]
  rw [e]; exact h1
 ·obtain rfl : j = us.length := by omega
  have e : ((xs ++ cs).drop (us.length * sz)).take sz = cs := by
   rw [<- h.1, List.drop_left, List.take_of_length_le (by omega)]
  rw [e, List.getElem_append_right (Nat.le_refl _)]
  simpa using hu
theorem rds_cells {sz cap : Nat} {W : World} {base : Nat} {E : TypeId} {A : Option Addr} {xs : List Value} {us : List α} (ho : W.ownsRow base E sz (.slice A us.length cap) us.length xs) (h : Rds sz Ra W xs us) : Cells sz Ra W A us := fun h0 => by
 obtain ⟨x, c, hv, _, hlt⟩ := ho.form h0
 have hA : A = some ⟨x, 0, none⟩ := by injection hv
 subst hA
 refine ⟨x, 0, rfl, hlt, fun j hj => ⟨(xs.drop (j * sz)).take sz, ?_, h.2 j hj, fun i y hy => ?_⟩⟩
 ·have hm : j * sz + sz <= us.length * sz := by rw [<- Nat.succ_mul]; exact Nat.mul_le_mul_right _ hj
  rw [List.length_take, List.length_drop, h.1]; omega
 ·rw [List.getElem?_take] at hy
  split at hy
  ·rw [List.getElem?_drop] at hy
   have := ho.cells (g := x) rfl (j * sz + i) y hy
   rw [Addr.add_lit, Nat.zero_add] at this
   rw [Nat.zero_add]
   exact this
  ·cases hy
end
structure Gr {α : Type} (E : TypeId) (sz : Nat) (Ra : World -> α -> List Value -> Prop) (w0 : World) (v : Value) (us : List α) (wr : World) : Prop where
 own : ∃ xs, Ow E sz w0 v us.length xs wr /\ Rds sz Ra wr xs us
section
variable {α : Type} {E : TypeId} {sz : Nat} {Ra : World -> α -> List Value -> Prop} {w0 wr w1 : World} {v : Value} {us : List α}
theorem Gr.bel (h : Gr E sz Ra w0 v us wr) : Below w0.heap.size w0 wr := by obtain ⟨xs, h1, _⟩ := h.own; exact h1.bel
theorem Gr.start (h : Below w0.heap.size w0 wr) : Gr E sz Ra w0 (.slice none 0 0) ([] : List α) wr := ⟨[], Ow.start _ _ h, rds_nil⟩
theorem Gr.next (ha : Keeps Ra) (h : Gr E sz Ra w0 v us wr) (hw : Below wr.heap.size wr w1) : Gr E sz Ra w0 v us w1 := by
 obtain ⟨xs, h1, h2⟩ := h.own
 exact ⟨xs, h1.next hw, rds_next ha h2 hw⟩
theorem Gr.form (h : Gr E sz Ra w0 v us wr) : ∃ (A : Option Addr) (cap : Nat), v = .slice A us.length cap /\ us.length <= cap /\ Cells sz Ra wr A us /\ Tyd (some E) wr A := by
 obtain ⟨xs, h1, h2⟩ := h.own
 obtain ⟨A, cap, rfl, hc⟩ := h1.form
 exact ⟨A, cap, rfl, hc, rds_cells h1.own h2, own_tyd h1.own⟩
theorem Gr.app {P : Program} {ops : Array Oper} {rest : List Oper} {o : Oper} {a : Act} {Q : Exit -> Act -> World -> Prop} (hT : KeepsT E Ra) (hgd : o.guard = none) (s x : Operand) (t : TypeId)
 (ho : o.op = .call { callee := .builtin .append, args := #[s, x], argTypes := #[t, t] }) (i : TypeInfo) (z : Value) (bytes : Nat) (ht : P.underlying t = some (.slice E)) (hi : P.info? E = some i) (hz : i.zero = some z)
 (hsize : i.size = sz) (hby : i.bytes = bytes) (hzs : z.cells.size = sz) (hsz : 0 < sz) (hs : a.eval s = v) (H : Gr E sz Ra w0 v us wr) (u : α) (cs : List Value) (hu : Ra wr u cs) (c : Nat) (E' : TypeId)
 (hx : a.eval x = .slice (some ⟨wr.heap.size, 0, none⟩) 1 c) (hl : cs.length = sz) (h1 : ∀ y ∈ cs, y.oneCell' = true) (h63 : us.length + 1 <= maxLen) (hbytes : (us.length + 1) * bytes <= 140737488355328)
 (h : ∀ v' w3, Gr E sz Ra w0 v' (us ++ [u]) w3 -> Only E v.ownBlock wr w3 -> (v'.ownBlock = v.ownBlock ∨ ∃ k, v'.ownBlock = some k /\ wr.heap.size <= k) -> wpList P ops Q rest (a.put o.dst v') w3) : wpList P ops Q (o :: rest) a (wr.alloc (.cells cs.toArray E')) := by
 obtain ⟨xs, H1, H2⟩ := H.own
 subst hs
 refine wpList_plain hgd fun K hK => ?_
 have hal := (Below.refl wr.heap.size wr).alloc (Nat.le_refl _) (.cells cs.toArray E')
 obtain ⟨v', w3, hrun, hown, hg, _, hblk⟩ := run_append_own_at (P := P) (wr.alloc (.cells cs.toArray E')) w0.heap.size t o.type E i z sz bytes ht hi hz hsize hby hzs hsz _ us.length xs (H1.own.alloc _) ⟨wr.heap.size, 0, none⟩ 1 c cs (by omega) (fun j y hj => by
  rw [Addr.add_lit, Nat.zero_add, World.cell?_alloc_mark]
  simpa using hj) h1 h63 hbytes (alloc_size H1.bel.size _)
 unfold Oper.wp execOp
 simp only [ho, resolve, invoke, builtin, Sem.run_bind, Sem.run_pure, Result.andThen_ok, List.map_toArray, List.map_cons, List.map_nil, hx, hrun]
 have hon : Only E (a.eval s).ownBlock wr w3 := by
  refine ⟨Nat.le_trans hal.size hg.size, fun b ks T fz hk hne => ?_⟩
  have hlt : b < wr.heap.size := by
   by_cases c : b < wr.heap.size
   ·exact c
   ·rw [Array.getElem?_eq_none (by omega)] at hk; cases hk
  refine (hg.block b (Nat.lt_of_lt_of_le hlt hal.size) (fun e => ?_)).trans (hal.block b hlt)
  rcases hne with hne | hne
  ·rcases H1.own.2 with ⟨hv, _⟩ | ⟨g, cap, cur, hv, _, hh, _⟩
   ·rw [hv] at e; simp [Value.ownBlock] at e
   ·rw [hv] at e
    have e2 : b = g := by simpa [Value.ownBlock] using e
    subst e2
    rw [hk] at hh
    injection hh with hh
    injection hh with _ ht
    exact hne ht
  ·exact hne e.symm
 refine hK _ _ (h v' w3 ⟨xs ++ cs, ⟨by rw [List.length_append, List.length_singleton]; exact hown, (H1.bel.alloc H1.bel.size _).grown hg (by have := H1.bel.size; simp; omega) (fun j hj => (H1.own.lt j hj).1)⟩, ?_⟩ hon ?_)
 ·exact rds_app ⟨H2.1, fun j hj => hT _ _ _ _ _ (H2.2 j hj) hon⟩ (hT _ _ _ _ _ hu hon) hl
 ·rcases hblk with h5 | h5
  ·exact .inl h5
  ·exact .inr ⟨_, h5, hal.size⟩
theorem Gr.only {E2 : TypeId} (hne : E ≠ E2) (hT : KeepsT E2 Ra) (h : Gr E sz Ra w0 v us wr) {gg : Option Nat} (ho : Only E2 gg wr w1) (hb : Below w0.heap.size w0 w1) : Gr E sz Ra w0 v us w1 := by
 obtain ⟨xs, h1, h2⟩ := h.own
 refine ⟨xs, ⟨⟨h1.own.1, ?_⟩, hb⟩, h2.1, fun j hj => hT _ _ _ _ _ (h2.2 j hj) ho⟩
 rcases h1.own.2 with h3 | ⟨g, cap, cur, hv, hg, hh, rest⟩
 ·exact .inl h3
 ·exact .inr ⟨g, cap, cur, hv, hg, (ho.2 g cur E (0, 0) hh (.inl hne)).trans hh, rest⟩
end
end Rl
theorem rskip_any (es : List Int) (hF : Ns.Fit es) (A : Option Addr) (cap : Nat) (a : Int) (ha : -1152921504606846976 <= a /\ a <= 1152921504606846976) (w : World) (h : Bs w w.heap.size .i64 A es) :
 Calls Tryz.prog 36 #[.slice A es.length cap, .int .i64 a] w fun e w' => e = .returned (.int .i64 (Ns.skp es a)) /\ w = w' := by
 have hm := hF.1
 by_cases h0 : 0 <= a
 ·have d0 : decide (0 <= a) = true := decide_eq_true h0
  by_cases h1 : a < es.length
  ·have d1 : decide (a < (es.length : Int)) = true := decide_eq_true h1
   obtain ⟨b, off, rfl, hb, hp⟩ := h (by omega)
   have p0 := hp a.toNat (by omega)
   have hr := hF.2 a.toNat (by omega)
   clear hp h
   by_cases h2 : a <= Ru.g es a.toNat
   ·have d2 : decide (a <= Ru.g es a.toNat) = true := decide_eq_true h2
    have HV := Lib.hid (Ns.skp_yes h0 h1 h2)
    clear hF
    generalize Ru.g es a.toNat = x at *
    go_enter Tryz.func36, Tryz.ntmps36
    go_wp2_with fail
    go_ret
    exact ⟨by rw [HV.out]; rfl, rfl⟩
   ·have d2 : decide (a <= Ru.g es a.toNat) = false := decide_eq_false h2
    have HV := Lib.hid (Ns.skp_no (es := es) (a := a) (fun h => h2 h.2.2))
    clear hF
    generalize Ru.g es a.toNat = x at *
    go_enter Tryz.func36, Tryz.ntmps36
    go_wp2_with fail
    go_ret
    exact ⟨by rw [HV.out]; rfl, rfl⟩
  ·have d1 : decide (a < (es.length : Int)) = false := decide_eq_false h1
   have HV := Lib.hid (Ns.skp_no (es := es) (a := a) (fun h => h1 h.2.1))
   clear h hF
   go_enter Tryz.func36, Tryz.ntmps36
   go_wp2_with fail
   go_ret
   exact ⟨by rw [HV.out]; rfl, rfl⟩
 ·have d0 : decide (0 <= a) = false := decide_eq_false h0
  have HV := Lib.hid (Ns.skp_no (es := es) (a := a) (fun h => h0 h.1))
  clear h hF
  go_enter Tryz.func36, Tryz.ntmps36
  go_wp2_with fail
  go_ret
  exact ⟨by rw [HV.out]; rfl, rfl⟩
def PlcAt (es : List Int) (from_ tz : Nat) (w : World) (v7 v8 : Value) (wr : World) : Prop :=
 ∃ (a : Nat) (pre : List Nat), v8 = .int .i64 a /\ a <= es.length /\ pre.length <= a /\ Hid (Ns.plc es tz from_ = pre ++ Ns.plc es tz a) /\ Ow 3 1 w v7 (Ns.ni pre).length (nums .i64 (Ns.ni pre)) wr
theorem rplaces_any (es : List Int) (hF : Ns.Fit es) (A : Option Addr) (cap : Nat) (from_ tz : Nat) (hft : from_ <= tz) (hto : tz <= es.length) (w : World) (h : Bs w w.heap.size .i64 A es) :
 Calls Tryz.prog 118 #[.slice A es.length cap, .int .i64 from_, .int .i64 tz] w (Told .i64 (Ns.ni (Ns.plc es tz from_)) w) := by
 have hm := hF.1
 have HS : Hid (∀ (a : Nat) (W : World), a <= 65536 -> Below w.heap.size w W -> Calls Tryz.prog 36 #[.slice A es.length cap, .int .i64 a] W fun e w' => e = .returned (.int .i64 ((Ns.sk es a : Nat) : Int)) /\ W = w') :=
  Lib.hid fun a W h2 hb => by rw [Ns.sk_eq]; exact rskip_any es hF A cap a (by omega) W (h.next hb)
 clear h hF
 go_enter Tryz.func118, Tryz.ntmps118
 go_wp2_with fail
 go_loopw [7, 8] (fun v7 v8 wr => PlcAt es from_ tz w v7 v8 wr) (fun _ v8 _ => tz - (RowKit.intOf v8).toNat)
 case atStart => exact ⟨from_, [], rfl, by omega, Nat.zero_le _, Lib.hid rfl, Ow.start _ _ (Below.refl _ _)⟩
 case round =>
  obtain ⟨a, pre, rfl, hal, hpl, HP, hown⟩ := hrel
  have HO := Lib.hid hown
  have hnl := Ns.ni_len pre
  have hl : (Ns.ni pre).length <= 1000000 := by omega
  clear hown hnl
  by_cases hlt : a < tz
  ·have CS := Lib.hid (fun W => HS.out a W (by omega))
   have hg := Ns.sk_gt es a
   have hk : Ns.sk es a <= es.length := Ns.sk_le (by omega)
   have HP2 : Hid (Ns.plc es tz from_ = (pre ++ [a]) ++ Ns.plc es tz (Ns.sk es a)) := Lib.hid (by rw [HP.out, Ns.plc_on hlt]; simp)
   have HN : Hid (Ns.ni (pre ++ [a]) = Ns.ni pre ++ [(a : Int)]) := Lib.hid (Ns.ni_app _ _)
   generalize Ns.sk es a = b at *
   generalize Ns.ni pre = nl at *
   go_wp2_with (first | (at_builtin; refine app_int rfl _ _ rfl rfl HO.out (a : Int) _ _ rfl hl ?_; intro v' w3 H3; have HO3 := Lib.hid H3; clear H3) | (go_at_call 36; ((with_reducible refine (CS.out _ HO3.out.bel).mono ?_); rintro e w4 ⟨rfl, rfl⟩)))
   go_roundw
   case rel => exact ⟨b, pre ++ [a], rfl, hk, by simp; omega, HP2, by rw [HN.out]; exact HO3.out⟩
   case measure => simp [RowKit.intOf]; omega
  ·have HE : Hid (Ns.plc es tz from_ = pre) := Lib.hid (by rw [HP.out, Ns.plc_end hlt, List.append_nil])
   go_wp2_with fail
   go_ret
   obtain ⟨A9, c9, hv, hc9, hB⟩ := own_form HO.out.own
   subst hv
   rw [HE.out]
   exact ⟨A9, c9, rfl, hc9, hB, HO.out.bel⟩
namespace Ns
open Tk
def isK (ts : List Tok) (kd : Int) (p : Nat) : Bool := decide ((tk ts p).1 = kd)
theorem drop_at {pl : List Nat} {k : Nat} (h : k < pl.length) : pl.drop k = pl.getD k 0 :: pl.drop (k + 1) := by
 rw [List.drop_eq_getElem_cons h, List.getD_eq_getElem?_getD, List.getElem?_eq_getElem h]; rfl
theorem at_mem {pl : List Nat} {k : Nat} (h : k < pl.length) : pl.getD k 0 ∈ pl := by
 rw [List.getD_eq_getElem?_getD, List.getElem?_eq_getElem h]; exact List.getElem_mem h
end Ns
def Nu (n : Int) (w : World) (e : Ending) (w' : World) : Prop := e = .returned (.int .i64 n) /\ Below w.heap.size w w'
theorem rfind_any (ts : List Tk.Tok) (es : List Int) (hF : Ns.Fit es) (hl : es.length <= ts.length) (A C : Option Addr) (ca cc : Nat) (fr tz : Nat) (hft : fr <= tz) (hto : tz <= es.length) (kd : Int) (w : World) (h : Ts w w.heap.size A ts) (h2 : Bs w w.heap.size .i64 C es) :
 Calls Tryz.prog 62 #[.slice A ts.length ca, .slice C es.length cc, .int .i64 fr, .int .i64 tz, .int .i64 kd, .string ⟨#[]⟩] w (Nu (Ns.fnd (Ns.isK ts kd) (Ns.plc es tz fr)) w) := by
 have hm := hF.1
 have CP := Lib.hid (rplaces_any es hF C cc fr tz hft hto w h2)
 have H := Lib.hid h
 have HM : Hid (∀ x ∈ Ns.plc es tz fr, x < tz) := Lib.hid fun x hx => (Ns.plc_mem _ (Nat.le_refl _) hx).2
 have hpl := Ns.plc_len (es := es)  (tz - fr) fr (Nat.le_refl _)
 clear h h2 hF
 generalize Ns.plc es tz fr = pl at *
 have hnl := Ns.ni_len pl
 have HNL := Lib.hid hnl
 clear hnl
 go_enter Tryz.func62, Tryz.ntmps62
 go_wp2_with (go_at_call 118; ((with_reducible refine (CP.out).mono ?_); rintro e w1 ⟨A1, c1, rfl, hc1, B1, b1⟩; have HB1 := Lib.hid b1; have HB := Lib.hid B1; clear b1 B1))
 go_loopw [14] (fun v14 wr => ∃ k : Nat, k <= pl.length /\ v14 = .int .i64 k /\ Hid (Ns.fnd (Ns.isK ts kd) pl = Ns.fnd (Ns.isK ts kd) (pl.drop k)) /\ wr = w1) (fun v14 _ => pl.length - (RowKit.intOf v14).toNat)
 case atStart => exact ⟨0, Nat.zero_le _, rfl, Lib.hid rfl, rfl⟩
 case round =>
  obtain ⟨k, hk, rfl, HK, rfl⟩ := hrel
  by_cases hlt : k < pl.length
  ·have d1 : decide (k < (Ns.ni pl).length) = true := decide_eq_true (by rw [HNL.out]; exact hlt)
   have hx := HM.out _ (Ns.at_mem hlt)
   have hd := Ns.drop_at hlt
   obtain ⟨b, off, rfl, hb, hp⟩ := HB.out (by rw [HNL.out]; omega)
   have p0 := hp k (by rw [HNL.out]; exact hlt)
   rw [Ns.ni_g hlt] at p0
   obtain ⟨bb, off2, rfl, hbb, hp2⟩ := (H.out.next HB1.out) (by omega)
   obtain ⟨q0, _, _⟩ := hp2 (pl.getD k 0) (by omega)
   have hkn : k < (Ns.ni pl).length := by rw [HNL.out]; exact hlt
   have hxl : pl.getD k 0 < ts.length := by omega
   have hwr : IntKind.i64.wrap ((k : Int) + 1) = (k : Int) + 1 := IntWalk.i64_in _ (by omega)
   clear hp hp2 HM
   by_cases hy : (Tk.tk ts (pl.getD k 0)).1 = kd
   ·have HV : Hid (Ns.fnd (Ns.isK ts kd) pl = ((pl.getD k 0 : Nat) : Int)) := Lib.hid (by rw [HK.out, hd, Ns.fnd, if_pos (show Ns.isK ts kd (pl.getD k 0) = true from decide_eq_true hy)])
    rw [hy] at q0
    clear hd HK hy d1
    generalize pl.getD k 0 = x at *
    go_wp2_with fail
    go_ret
    exact ⟨by rw [HV.out]; rfl, HB1.out⟩
   ·have HV : Hid (Ns.fnd (Ns.isK ts kd) pl = Ns.fnd (Ns.isK ts kd) (pl.drop (k + 1))) := Lib.hid (by rw [HK.out, hd, Ns.fnd, if_neg (fun (c : Ns.isK ts kd (pl.getD k 0) = true) => hy (of_decide_eq_true c))])
    have hyb : ((Tk.tk ts (pl.getD k 0)).1 == kd) = false := beq_false_of_ne hy
    clear hd HK hy d1
    generalize pl.getD k 0 = x at *
    go_wp2_with fail
    go_roundw
    case rel => exact ⟨k + 1, by omega, by go_num, HV, trivial⟩
    case measure => simp [RowKit.intOf]; omega
  ·have hlt2 : ¬ k < (Ns.ni pl).length := by rw [HNL.out]; exact hlt
   have HV : Hid (Ns.fnd (Ns.isK ts kd) pl = -1) := Lib.hid (by rw [HK.out, List.drop_eq_nil_of_le (by omega)]; rfl)
   go_wp2_with fail
   go_ret
   exact ⟨by rw [HV.out]; rfl, HB1.out⟩
namespace Rl
open Tk
def SlA {α : Type} (g : Option Nat) (E : TypeId) (sz : Nat) (Ra : World -> α -> List Value -> Prop) (W : World) (us : List α) (cs : List Value) : Prop :=
 ∃ (A : Option Addr) (cap : Nat), cs = [.slice A us.length cap] /\ us.length <= cap /\ Cells sz Ra W A us /\ Tyd (some E) W A /\ ∀ b off, A = some ⟨b, off, none⟩ -> g ≠ some b /\ b < W.heap.size
def MarA (g : Option Nat) : World -> Margin -> List Value -> Prop := St2 StrQ (SlA g 42 3 (DecQ true))
theorem keeps_marA (g : Option Nat) : Keeps (MarA g) := keeps_st2 keeps_str fun _ _ _ _ ⟨A, cap, e, hc, h, ht, ha⟩ hw => ⟨A, cap, e, hc, cells_next (keeps_dec true) h hw, tyd_next ht hw, fun b off hA => ⟨(ha b off hA).1, Nat.lt_of_lt_of_le (ha b off hA).2 hw.size⟩⟩
theorem marA_Q {g : Option Nat} {W : World} {m : Margin} {cs : List Value} (h : MarA g W m cs) : MarQ true W m cs := by
 obtain ⟨a, b, e, h1, A, cap, e2, hc, hcell, ht, _⟩ := h
 exact ⟨a, b, e, h1, A, cap, e2, hc, hcell, ht⟩
theorem kT_marA (g : Option Nat) : KeepsT 49 (MarA g) := fun gg w w1 u cs ⟨a, b, e, h1, A, cap, e2, hc, hcell, ht, hav⟩ hw => by
 obtain ⟨A', cap', e3, hc', hcell', ht'⟩ := kT_sl (E := 49) (E' := 42) (sz := 3) (by decide) (kT_dec2 (by decide)) gg w w1 u.2 [b] ⟨A, cap, e2, hc, hcell, ht⟩ hw
 rw [e2] at e3
 injection e3 with e3
 injection e3 with e4 _ e5
 subst e4 e5
 exact ⟨a, b, e, h1, A, cap, e2, hc, hcell', ht', fun b off hA => ⟨(hav b off hA).1, Nat.lt_of_lt_of_le (hav b off hA).2 hw.1⟩⟩
theorem marA_decl {g g' : Option Nat} {w w1 : World} {m : Margin} {cs : List Value} (h : MarA g w m cs) (hw : Only 42 g w w1) (hg : g' = g ∨ ∃ k, g' = some k /\ w.heap.size <= k) : MarA g' w1 m cs := by
 obtain ⟨a, b, e, h1, A, cap, e2, hc, hcell, ht, hav⟩ := h
 refine ⟨a, b, e, h1, A, cap, e2, hc, fun h0 => ?_, fun E1 hE b1 off1 hA => ?_, fun b1 off1 hA => ?_⟩
 ·obtain ⟨b1, off, hA, hb, hce⟩ := hcell h0
  obtain ⟨ks, fz, hk⟩ := ht _ rfl b1 off hA
  have hsame := hw.2 b1 ks _ fz hk (.inr (hav b1 off hA).1)
  refine ⟨b1, off, hA, Nat.lt_of_lt_of_le hb hw.1, fun j hj => ?_⟩
  obtain ⟨ys, g1, g2, g3⟩ := hce j hj
  exact ⟨ys, g1, kT_dec _ _ _ _ _ g2 hw, fun i x hx => (World.cell?_of_block (a := ⟨b1, off + j * 3 + i, none⟩) hsame).trans (g3 i x hx)⟩
 ·injection hE with hE
  subst hE
  obtain ⟨ks, fz, hk⟩ := ht _ rfl b1 off1 hA
  exact ⟨ks, fz, (hw.2 b1 ks _ fz hk (.inr (hav b1 off1 hA).1)).trans hk⟩
 ·refine ⟨?_, Nat.lt_of_lt_of_le (hav b1 off1 hA).2 hw.1⟩
  rcases hg with rfl | ⟨k, rfl, hk⟩
  ·exact (hav b1 off1 hA).1
  ·intro e
   injection e with e
   have := (hav b1 off1 hA).2
   omega
theorem gr_decl {g g' : Option Nat} {w0 wr w1 : World} {v : Value} {ms : List Margin} (h : Gr 49 2 (MarA g) w0 v ms wr) (hw : Only 42 g wr w1) (hb : Below w0.heap.size w0 w1) (hg : g' = g ∨ ∃ k, g' = some k /\ wr.heap.size <= k) : Gr 49 2 (MarA g') w0 v ms w1 := by
 obtain ⟨xs, h1, h2⟩ := h.own
 refine ⟨xs, ⟨⟨h1.own.1, ?_⟩, hb⟩, h2.1, fun j hj => marA_decl (h2.2 j hj) hw hg⟩
 rcases h1.own.2 with h3 | ⟨g, cap, cur, hv, hgb, hh, rest⟩
 ·exact .inl h3
 ·exact .inr ⟨g, cap, cur, hv, hgb, (hw.2 g cur _ (0, 0) hh (.inl (by decide))).trans hh, rest⟩
def New (n : Nat) (A : Option Addr) : Prop := ∀ b off, A = some ⟨b, off, none⟩ -> n <= b
theorem own_new {W : World} {base sz n cap : Nat} {E : TypeId} {A : Option Addr} {xs : List Value} (ho : W.ownsRow base E sz (.slice A n cap) n xs) : New base A /\ ∀ b off, A = some ⟨b, off, none⟩ -> b < W.heap.size := by
 rcases ho.2 with ⟨hv, _⟩ | ⟨g, c, cur, hv, hb, hh, _⟩
 ·injection hv with h1
  rw [h1]
  exact ⟨fun b off hA => (by cases hA), fun b off hA => (by cases hA)⟩
 ·injection hv with h1
  rw [h1]
  refine ⟨fun b off hA => ?_, fun b off hA => ?_⟩
  ·injection hA with hA
   injection hA with hA _
   omega
  ·injection hA with hA
   injection hA with hA _
   subst hA
   exact (Array.getElem?_eq_some_iff.1 hh).1
end Rl
def ToldB (r : List Rl.Decl × List Rl.Margin) (w : World) (e : Ending) (w' : World) : Prop :=
 ∃ (A1 : Option Addr) (c1 : Nat) (A2 : Option Addr) (c2 : Nat), e = .returned (.tuple #[.slice A1 r.1.length c1, .slice A2 r.2.length c2]) /\ r.1.length <= c1 /\ r.2.length <= c2 /\
   Rl.Cells 3 (Rl.DecQ true) w' A1 r.1 /\ Rl.Tyd (some 42) w' A1 /\ (Rl.New w.heap.size A1 /\ ∀ b off, A1 = some ⟨b, off, none⟩ -> b < w'.heap.size) /\ Rl.Cells 2 (Rl.MarQ true) w' A2 r.2 /\ Rl.Tyd (some 49) w' A2 /\ Below w.heap.size w w'
theorem told_block {w wr : World} {v1 v2 : Value} {ds : List Rl.Decl} {ms : List Rl.Margin} {g : Option Nat} (h1 : Rl.Gr 42 3 (Rl.DecQ true) w v1 ds wr) (h2 : Rl.Gr 49 2 (Rl.MarA g) w v2 ms wr) : ToldB (ds, ms) w (.returned (.tuple #[v1, v2])) wr := by
 obtain ⟨A1, c1, rfl, hc1, hC1, hT1⟩ := h1.form
 obtain ⟨A2, c2, rfl, hc2, hC2, hT2⟩ := h2.form
 obtain ⟨xs, g1, _⟩ := h1.own
 refine ⟨A1, c1, A2, c2, rfl, hc1, hc2, hC1, hT1, Rl.own_new g1.own, fun h0 => ?_, hT2, h1.bel⟩
 obtain ⟨b, off, e, hb, hc⟩ := hC2 h0
 refine ⟨b, off, e, hb, fun j hj => ?_⟩
 obtain ⟨cs, k1, k2, k3⟩ := hc j hj
 exact ⟨cs, k1, Rl.marA_Q k2, k3⟩
theorem Tryz.infoDec : (Tryz.prog.info? 42).map (fun i => (i.zero, i.size, i.bytes)) = some (some (.agg #[.string ⟨#[]⟩, .slice none 0 0, .bool false]), 3, 48) := by kernel_rfl
theorem Tryz.infoMar : (Tryz.prog.info? 49).map (fun i => (i.zero, i.size, i.bytes)) = some (some (.agg #[.string ⟨#[]⟩, .slice none 0 0]), 2, 40) := by kernel_rfl
theorem app_dec {ops : Array Oper} {rest : List Oper} {o : Oper} {a : Act} {Q : Exit -> Act -> World -> Prop} {w0 wr : World} {v : Value} {ds : List Rl.Decl} (hgd : o.guard = none) (s x : Operand)
 (ho : o.op = .call { callee := .builtin .append, args := #[s, x], argTypes := #[40, 40] }) (hs : a.eval s = v) (H : Rl.Gr 42 3 (Rl.DecQ true) w0 v ds wr) (d : Rl.Decl) (A : Option Addr) (cap : Nat) (hc : d.2.1.length <= cap) (hT : TsT wr A d.2.1) (c : Nat) (E' : TypeId)
 (hx : a.eval x = .slice (some ⟨wr.heap.size, 0, none⟩) 1 c) (hm : ds.length <= 1000000)
 (h : ∀ v' w3, Rl.Gr 42 3 (Rl.DecQ true) w0 v' (ds ++ [d]) w3 -> Rl.Only 42 v.ownBlock wr w3 -> (v'.ownBlock = v.ownBlock ∨ ∃ k, v'.ownBlock = some k /\ wr.heap.size <= k) -> wpList Tryz.prog ops Q rest (a.put o.dst v') w3) :
 wpList Tryz.prog ops Q (o :: rest) a (wr.alloc (.cells #[.string d.1, .slice A d.2.1.length cap, .bool d.2.2] E')) := by
 obtain ⟨i0, hi, hz0, hz1, hz2⟩ := info_parts Tryz.infoDec
 exact Rl.Gr.app Rl.kT_dec hgd s x 40 ho i0 _ 48 Tryz.underlying40 hi hz0 hz1 hz2 rfl (by decide) hs H d [.string d.1, .slice A d.2.1.length cap, .bool d.2.2]
  ⟨_, _, _, rfl, rfl, ⟨A, cap, rfl, hc, Rl.cells_ts hT.1, hT.2⟩, rfl⟩ c E' hx rfl (by simp [Value.oneCell']) (by unfold maxLen; omega) (by omega) h
theorem app_mar {ops : Array Oper} {rest : List Oper} {o : Oper} {a : Act} {Q : Exit -> Act -> World -> Prop} {w0 wr : World} {v : Value} {ms : List Rl.Margin} {g : Option Nat} (hgd : o.guard = none) (s x : Operand)
 (ho : o.op = .call { callee := .builtin .append, args := #[s, x], argTypes := #[45, 45] }) (hs : a.eval s = v) (H : Rl.Gr 49 2 (Rl.MarA g) w0 v ms wr) (m : Rl.Margin) (A : Option Addr) (cap : Nat) (hc : m.2.length <= cap) (hC : Rl.Cells 3 (Rl.DecQ true) wr A m.2) (hT : Rl.Tyd (some 42) wr A) (hav : ∀ b off, A = some ⟨b, off, none⟩ -> g ≠ some b /\ b < wr.heap.size) (c : Nat) (E' : TypeId)
 (hx : a.eval x = .slice (some ⟨wr.heap.size, 0, none⟩) 1 c) (hm : ms.length <= 1000000)
 (h : ∀ v' w3, Rl.Gr 49 2 (Rl.MarA g) w0 v' (ms ++ [m]) w3 -> Rl.Only 49 v.ownBlock wr w3 -> wpList Tryz.prog ops Q rest (a.put o.dst v') w3) :
 wpList Tryz.prog ops Q (o :: rest) a (wr.alloc (.cells #[.string m.1, .slice A m.2.length cap] E')) := by
 obtain ⟨i0, hi, hz0, hz1, hz2⟩ := info_parts Tryz.infoMar
 exact Rl.Gr.app (Rl.kT_marA g) hgd s x 45 ho i0 _ 40 Tryz.underlying45 hi hz0 hz1 hz2 rfl (by decide) hs H m [.string m.1, .slice A m.2.length cap]
  ⟨_, _, rfl, rfl, A, cap, rfl, hc, hC, hT, hav⟩ c E' hx rfl (by simp [Value.oneCell']) (by unfold maxLen; omega) (by omega) (fun v' w3 h1 h2 _ => h v' w3 h1 h2)
namespace Rl
open Tk Ns
variable (sd : List Tok -> Bool) (ts : List Tok)
def blk (page : Bool) (a b : Nat) : List Decl × List Margin := blockF sd ts (b - a) page a b
theorem blockF_blk {n : Nat} {page : Bool} {a b : Nat} (h : b - a <= n) : blockF sd ts n page a b = blk sd ts page a b := block_fuel n (b - a) page a b h (Nat.le_refl _)
theorem blk_end {page : Bool} {a b : Nat} (h : ¬ a < b) : blk sd ts page a b = ([], []) := by
 unfold blk
 rw [show b - a = 0 by omega]; rfl
theorem blk_skip {page : Bool} {a b : Nat} (h : a < b) (h1 : (tk ts a).1 = 1 ∨ (tk ts a).1 = 15) : blk sd ts page a b = blk sd ts page (a + 1) b := by
 rw [<- blockF_blk sd ts (n := b - a - 1 + 1) (by omega), blockF, if_pos h, if_pos h1, blockF_blk sd ts (by omega)]
theorem blk_decl {page : Bool} {a b : Nat} (h : a < b) (h1 : ¬ ((tk ts a).1 = 1 ∨ (tk ts a).1 = 15)) (h4 : (tk ts a).1 ≠ 4) : blk sd ts page a b = addD (declL sd (sub ts a (fo seB ts a b))) (blk sd ts page (fo seB ts a b) b) := by
 have hl := fo_lt (p := seB) h (decide_eq_false (fun c => h1 (.inr c)))
 rw [<- blockF_blk sd ts (n := b - a - 1 + 1) (by omega), blockF, if_pos h, if_neg h1, if_neg h4, blockF_blk sd ts (by omega)]
def marAt (page : Bool) (a b e : Nat) : Prop := e < b /\ (tk ts e).1 = 12 /\ page = true /\ 0 <= box (tk ts a).2.1 /\ trim (sub ts (a + 1) e) = []
theorem blk_mar {page : Bool} {a b : Nat} (h : a < b) (h4 : (tk ts a).1 = 4) (hm : marAt ts page a b (fo (stB true) ts (a + 1) b)) : blk sd ts page a b =
 ((blk sd ts page (sk (ends ts) (fo (stB true) ts (a + 1) b)) b).1, (Ru.lowS (tk ts a).2.1, (blk sd ts false (fo (stB true) ts (a + 1) b + 1) (min (Ru.g (ends ts) (fo (stB true) ts (a + 1) b)).toNat b)).1) :: (blk sd ts page (sk (ends ts) (fo (stB true) ts (a + 1) b)) b).2) := by
 have hm' := hm
 unfold marAt at hm'
 have hf := fo_bd (stB true) ts (show a + 1 <= b by omega)
 have hs := sk_gt (ends ts) (fo (stB true) ts (a + 1) b)
 rw [<- blockF_blk sd ts (n := b - a - 1 + 1) (by omega), blockF, if_pos h, if_neg (by omega), if_pos h4, if_pos hm', blockF_blk sd ts (by omega), blockF_blk sd ts (by omega)]
theorem blk_at {page : Bool} {a b : Nat} (h : a < b) (h4 : (tk ts a).1 = 4) (hm : ¬ marAt ts page a b (fo (stB true) ts (a + 1) b)) : blk sd ts page a b = blk sd ts page (sk (ends ts) (fo (stB true) ts (a + 1) b)) b := by
 have hm' := hm
 unfold marAt at hm'
 have hf := fo_bd (stB true) ts (show a + 1 <= b by omega)
 have hs := sk_gt (ends ts) (fo (stB true) ts (a + 1) b)
 rw [<- blockF_blk sd ts (n := b - a - 1 + 1) (by omega), blockF, if_pos h, if_neg (by omega), if_pos h4, if_neg hm', blockF_blk sd ts (by omega)]
end Rl
namespace Rl
open Tk Ns
section
variable {sd : List Tok -> Bool}
end
end Rl
end Go.Proofs.YtkcabpjfgbghjaaGreatDoor
