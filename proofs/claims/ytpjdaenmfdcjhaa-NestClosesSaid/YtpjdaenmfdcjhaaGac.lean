/-
  What Ends tells; the row of the reference's inner loop. No run of the program in this text.
-/
import Derived.Test.YtpjdaenmfdcjhaaGab
import Derived.Deep.Cut
import Derived.Deep.CutRange
import Derived.Deep.DeepCutAuto
import Derived.Deep.QuietTactic
import Derived.BigQuiet
import Derived.LoopTactic
import Derived.IntWalk
import Derived.Lib.Hide
namespace Go.Proofs.Ytpjdaenmfdcjhaa
open Go.RowKit

/-- the ends of all tokens, or too deep -/
def EndsOk (ts : List Tk.Tok) (w : World) (e : Ending) (w' : World) : Prop :=
  ∃ v, e = .returned (.tuple #[v, .int .i64 0]) ∧ w'.ownsRow w.heap.size 3 1 v (Ns.ends ts).length (nums .i64 (Ns.ends ts)) ∧ Below w.heap.size w w'
def EndsBad (w : World) (e : Ending) (w' : World) : Prop := e = .returned (.tuple #[.slice none 0 0, .int .i64 3]) ∧ Below w.heap.size w w'
def EndsIs (ts : List Tk.Tok) (w : World) (e : Ending) (w' : World) : Prop := (¬ Ns.deep ts → EndsOk ts w e w') ∧ (Ns.deep ts → EndsBad w e w')
/-- a slice that reads as numbers, and no error -/
def EndsL (es : List Int) (w : World) (e : Ending) (w' : World) : Prop :=
  ∃ (A : Option Addr) (cap : Nat), e = .returned (.tuple #[.slice A es.length cap, .int .i64 0]) ∧ es.length ≤ cap ∧ Bs w' w'.heap.size .i64 A es ∧ Below w.heap.size w w'
abbrev EndsRd (ts : List Tk.Tok) (w : World) (e : Ending) (w' : World) : Prop := EndsL (Ns.ends ts) w e w'
theorem ends_rd {ts : List Tk.Tok} {w : World} {e : Ending} {w' : World} (h : EndsOk ts w e w') : EndsL (Ns.ends ts) w e w' := by
  obtain ⟨v, rfl, ho, hb⟩ := h
  obtain ⟨A, cap, rfl, hc, hB⟩ := own_form ho
  exact ⟨A, cap, rfl, hc, hB, hb⟩
namespace Ns
open Tk
theorem ends_none {ts : List Tok} {k : Nat} (hk : k < ts.length) (h : ¬ isO (tk ts k)) : Ru.g (ends ts) k = -1 := by
  unfold Ru.g
  rcases ends_range hk with h1 | h1
  · exact h1.2
  · exact absurd h1.1 h
/-- the inner loop: the end that is known, of what stands at j and behind -/
def Known (ts : List Tok) (k j : Nat) (e : Int) : Prop := k ∈ opn ts j → e = Ru.g (ends ts) k
theorem known_start (ts : List Tok) (k : Nat) : Known ts k ts.length ts.length := fun h => by
  unfold Ru.g ends
  rw [enF_open h]
theorem known_same {ts : List Tok} {k j : Nat} {e : Int} (h : Known ts k (j + 1) e) (hm : k ∈ opn ts (j + 1)) : Known ts k j e := fun _ => h hm
theorem known_new {ts : List Tok} {k j : Nat} (hj : j < ts.length) (hm : k ∉ opn ts (j + 1)) : Known ts k j j := fun h => by
  have hc : closes ts (opn ts j) j ∧ top (opn ts j) = k := Decidable.of_not_not fun hn => hm (mem_next h hn)
  unfold Ru.g ends
  rw [enF_at_pop hc.1 hc.2 hj]
theorem known_end {ts : List Tok} {k : Nat} {e : Int} (hO : isO (tk ts k)) (h : Known ts k (k + 1) e) : e = Ru.g (ends ts) k := h (by rw [opn_push hO]; simp)
end Ns
end Go.Proofs.Ytpjdaenmfdcjhaa

/-
  Plain words of places: the place behind, all places, what is found, the parts. No run of the program in this text.
-/
namespace Go.Proofs.Ytpjdaenmfdcjhaa
open Go.RowKit
namespace Ns
open Tk

/-- ends as they are told: none below -1, none greater than many tokens have -/
def Fit (es : List Int) : Prop := es.length ≤ 65536 ∧ ∀ j, j < es.length → -1 ≤ Ru.g es j ∧ Ru.g es j ≤ 65536
theorem ends_fit {ts : List Tok} (hm : ts.length ≤ 65536) : Fit (ends ts) := by
  refine ⟨by rw [ends_len]; exact hm, fun j hj => ?_⟩
  rw [ends_len] at hj
  have := ends_range hj
  unfold Ru.g
  omega
/-- ends that lead on: each is none, or the number of tokens, or a later place that has none -/
def Lead (es : List Int) : Prop := ∀ j, j < es.length → Ru.g es j = -1 ∨ Ru.g es j = (es.length : Int) ∨ ((j : Int) < Ru.g es j ∧ Ru.g es j < (es.length : Int) ∧ Ru.g es (Ru.g es j).toNat = -1)
/-- an opening's end: the number of tokens, or its own closing -/
theorem ends_pair {ts : List Tok} {k : Nat} (hk : k < ts.length) (hO : isO (tk ts k)) : Ru.g (ends ts) k = (ts.length : Int) ∨ ∃ j, k < j ∧ j < ts.length ∧ Ru.g (ends ts) k = (j : Int) ∧ (tk ts j).1 = 13 ∧ clo (tk ts k) = (tk ts j).2.1 ∧ Ru.g (ends ts) j = -1 := by
  have e : ∀ x, Ru.g (ends ts) x = (enF ts ts.length).getD x 0 := fun x => rfl
  by_cases hm : k ∈ opn ts ts.length
  · left; rw [e, enF_open hm]
  · rcases enF_cases hk hm with h | ⟨j, h1, h2, h3, h4, h5⟩
    · exact absurd hO h.1
    · refine .inr ⟨j, h1, h2, by rw [e, h5], h3.1, by rw [← h4]; exact h3.2.2, ends_none h2 (closes_not h3)⟩
theorem ends_lead (ts : List Tok) : Lead (ends ts) := fun j hj => by
  rw [ends_len] at hj ⊢
  by_cases hO : isO (tk ts j)
  · rcases ends_pair hj hO with h | ⟨m, h1, h2, h3, _, _, h6⟩
    · exact .inr (.inl h)
    · exact .inr (.inr ⟨by rw [h3]; omega, by rw [h3]; omega, by rw [h3, Int.toNat_natCast]; exact h6⟩)
  · exact .inl (ends_none hj hO)
/-- the place behind a place -/
def skp (es : List Int) (a : Int) : Int := if 0 ≤ a ∧ a < es.length ∧ a ≤ Ru.g es a.toNat then min (Ru.g es a.toNat + 1) es.length else a + 1
theorem skp_yes {es : List Int} {a : Int} (h0 : 0 ≤ a) (h1 : a < es.length) (h2 : a ≤ Ru.g es a.toNat) : skp es a = min (Ru.g es a.toNat + 1) es.length := by unfold skp; rw [if_pos ⟨h0, h1, h2⟩]
theorem skp_no {es : List Int} {a : Int} (h : ¬ (0 ≤ a ∧ a < es.length ∧ a ≤ Ru.g es a.toNat)) : skp es a = a + 1 := by unfold skp; rw [if_neg h]
theorem skp_gt (es : List Int) (a : Int) : a < skp es a := by unfold skp; split <;> omega
theorem skp_le {es : List Int} {a : Int} (h : a < es.length) : skp es a ≤ es.length := by unfold skp; split <;> omega
def sk (es : List Int) (a : Nat) : Nat := (skp es a).toNat
theorem sk_eq (es : List Int) (a : Nat) : ((sk es a : Nat) : Int) = skp es a := by unfold sk; have := skp_gt es a; omega
theorem sk_gt (es : List Int) (a : Nat) : a < sk es a := by have := skp_gt es a; have := sk_eq es a; omega
theorem sk_le {es : List Int} {a : Nat} (h : a < es.length) : sk es a ≤ es.length := by have := skp_le (es := es) (a := a) (by omega); have := sk_eq es a; omega
/-- all places from one on, ahead of another one -/
def plc (es : List Int) (tz a : Nat) : List Nat := if _h : a < tz then a :: plc es tz (sk es a) else []
termination_by tz - a
decreasing_by have := sk_gt es a; omega
theorem plc_on {es : List Int} {tz a : Nat} (h : a < tz) : plc es tz a = a :: plc es tz (sk es a) := by rw [plc, dif_pos h]
theorem plc_end {es : List Int} {tz a : Nat} (h : ¬ a < tz) : plc es tz a = [] := by rw [plc, dif_neg h]
theorem plc_mem {es : List Int} {tz : Nat} : ∀ (m : Nat) {a x : Nat}, tz - a ≤ m → x ∈ plc es tz a → a ≤ x ∧ x < tz
  | m, a, x, hm, hx => by
    by_cases h : a < tz
    · rw [plc_on h] at hx
      rcases List.mem_cons.1 hx with rfl | hx
      · omega
      · match m, hm with
        | 0, hm => omega
        | m + 1, hm =>
          have hg := sk_gt es a
          have := plc_mem m (by omega) hx
          omega
    · rw [plc_end h] at hx; cases hx
theorem plc_len {es : List Int} {tz : Nat} : ∀ (m a : Nat), tz - a ≤ m → (plc es tz a).length ≤ tz - a
  | m, a, hm => by
    by_cases h : a < tz
    · rw [plc_on h]
      match m, hm with
      | 0, hm => omega
      | m + 1, hm =>
        have hg := sk_gt es a
        have := plc_len (es := es) (tz := tz) m (sk es a) (by omega)
        simp only [List.length_cons]
        omega
    · rw [plc_end h]; simp
/-- the first place of the kind, or -1 -/
def fnd (p : Nat → Bool) : List Nat → Int
  | [] => -1
  | a :: r => if p a = true then a else fnd p r
/-- the parts between places of the kind -/
def spl (p : Nat → Bool) (tz : Nat) : List Nat → Nat → List (Nat × Nat)
  | [], b => [(b, tz)]
  | a :: r, b => if p a = true ∧ b ≤ a then (b, a) :: spl p tz r (a + 1) else spl p tz r b
def flat (ps : List (Nat × Nat)) : List Int := ps.flatMap fun q => [(q.1 : Int), (q.2 : Int)]
theorem flat_len (ps : List (Nat × Nat)) : (flat ps).length = ps.length * 2 := by
  induction ps with
  | nil => rfl
  | cons q ps ih => unfold flat at ih ⊢; rw [List.flatMap_cons, List.length_append, ih, List.length_cons]; simp; omega
theorem flat_app (ps qs : List (Nat × Nat)) : flat (ps ++ qs) = flat ps ++ flat qs := by unfold flat; rw [List.flatMap_append]
/-- the first place that is no Space -/
def trA (ts : List Tok) (b a : Nat) : Nat := if _h : a < b ∧ (tk ts a).1 = 1 then trA ts b (a + 1) else a
termination_by b - a
theorem trA_on {ts : List Tok} {b a : Nat} (h : a < b ∧ (tk ts a).1 = 1) : trA ts b a = trA ts b (a + 1) := by rw [trA, dif_pos h]
theorem trA_end {ts : List Tok} {b a : Nat} (h : ¬ (a < b ∧ (tk ts a).1 = 1)) : trA ts b a = a := by rw [trA, dif_neg h]
/-- the place behind the last one that is no Space -/
def trB (ts : List Tok) (a : Nat) : Nat → Nat
  | 0 => 0
  | b + 1 => if a < b + 1 ∧ (tk ts b).1 = 1 then trB ts a b else b + 1
theorem trB_on {ts : List Tok} {a b : Nat} (h : a < b + 1 ∧ (tk ts b).1 = 1) : trB ts a (b + 1) = trB ts a b := by rw [trB, if_pos h]
theorem trB_end {ts : List Tok} {a b : Nat} (h : ¬ (a < b + 1 ∧ (tk ts b).1 = 1)) : trB ts a (b + 1) = b + 1 := by rw [trB, if_neg h]
theorem trB_low {ts : List Tok} {a b : Nat} (h : b ≤ a) : trB ts a b = b := by
  match b, h with
  | 0, _ => rfl
  | b + 1, h => exact trB_end (fun c => by omega)
end Ns
/-- pairs of places as cells -/
abbrev prC (ps : List (Nat × Nat)) : List Value := nums .i64 (Ns.flat ps)
/-- a slice of pairs that is told -/
def ToldP (ps : List (Nat × Nat)) (w : World) (e : Ending) (w' : World) : Prop :=
  ∃ (A : Option Addr) (cap : Nat), e = .returned (.slice A ps.length cap) ∧ ps.length ≤ cap ∧ Bs w' w'.heap.size .i64 A (Ns.flat ps) ∧ Below w.heap.size w w'
theorem Bs.of_own2 {w : World} {base : Nat} {e : TypeId} {A : Option Addr} {n cap sz : Nat} {l : List Int} (h : w.ownsRow base e sz (.slice A n cap) n (nums .i64 l)) : Bs w w.heap.size .i64 A l := fun hl => by
  have hn : 0 < n := by
    rcases Nat.eq_zero_or_pos n with h0 | h0
    · have := h.1; rw [h0, Nat.zero_mul, nums_len] at this; omega
    · exact h0
  obtain ⟨x, c, hv, _, hlt⟩ := h.form hn
  have hA : A = some ⟨x, 0, none⟩ := by injection hv
  subst hA
  refine ⟨x, 0, rfl, hlt, fun j hj => ?_⟩
  have := h.cells (g := x) rfl j _ (nums_get (k := .i64) hj)
  rwa [Addr.add_lit] at this
theorem Try.infoPr : (Try.prog.info? 39).map (fun i => (i.zero, i.size, i.bytes)) = some (some (.agg #[.int .i64 0, .int .i64 0]), 2, 16) := by kernel_rfl
theorem two_ok (x y : Int) : ∀ u ∈ [Value.int .i64 x, .int .i64 y], u.oneCell' = true := by simp [Value.oneCell']
theorem app_pair {ops : Array Oper} {rest : List Oper} {o : Oper} {a : Act} {Q : Exit → Act → World → Prop} {w0 wr : World} {v : Value} {ps : List (Nat × Nat)} (hgd : o.guard = none) (s x : Operand)
    (ho : o.op = .call { callee := .builtin .append, args := #[s, x], argTypes := #[34, 34] }) (hs : a.eval s = v) (H : Ow 39 2 w0 v ps.length (prC ps) wr) (b t : Nat) (c : Nat) (E' : TypeId)
    (hx : a.eval x = .slice (some ⟨wr.heap.size, 0, none⟩) 1 c) (hm : ps.length ≤ 1000000)
    (h : ∀ v' w3, Ow 39 2 w0 v' (ps ++ [(b, t)]).length (prC (ps ++ [(b, t)])) w3 → wpList Try.prog ops Q rest (a.put o.dst v') w3) : wpList Try.prog ops Q (o :: rest) a (wr.alloc (.cells #[.int .i64 b, .int .i64 t] E')) := by
  obtain ⟨i0, hi, hz0, hz1, hz2⟩ := info_parts Try.infoPr
  refine app_own hgd s x 34 ho i0 _ 16 Try.underlying34 hi hz0 hz1 hz2 rfl (by decide) hs H [.int .i64 b, .int .i64 t] c E' _ rfl hx rfl (two_ok _ _) (by unfold maxLen; omega) (by omega) (fun v' w3 H3 => ?_)
  refine h v' w3 ?_
  unfold prC
  rw [List.length_append, Ns.flat_app, nums_app]
  exact H3
end Go.Proofs.Ytpjdaenmfdcjhaa

/-
  The walks of the reference's Trim and of the law's same.
-/
namespace Go.Proofs.Ytpjdaenmfdcjhaa
open Go.RowKit

/-- two places, and new memory at most -/
def Tw (a b : Int) (w : World) (e : Ending) (w' : World) : Prop := e = .returned (.tuple #[.int .i64 a, .int .i64 b]) ∧ Below w.heap.size w w'

set_option maxHeartbeats 4000000 in
set_option maxRecDepth 100000 in
theorem rtrim_some (ts : List Tk.Tok) (hm : ts.length ≤ 65536) (bb off : Nat) (ca : Nat) (fr tz : Nat) (hft : fr ≤ tz) (hto : tz ≤ ts.length) (w : World) (h : ∀ j, j < ts.length → w.cell? ⟨bb, off + j * 3, none⟩ = some (.int .i64 (Tk.tk ts j).1)) :
    Calls Try.prog 19 #[.slice (some ⟨bb, off, none⟩) ts.length ca, .int .i64 fr, .int .i64 tz] w (Tw (Ns.trA ts tz fr) (Ns.trB ts (Ns.trA ts tz fr) tz) w) := by
  have HP := Lib.hid h
  clear h
  go_enter Try.func19, Try.ntmps19
  go_wp2_with fail
  go_loopw [1] (fun v1 wr => ∃ a : Nat, v1 = .int .i64 a ∧ a ≤ tz ∧ Hid (Ns.trA ts tz fr = Ns.trA ts tz a) ∧ wr = w) (fun v1 _ => tz - (RowKit.intOf v1).toNat)
  case atStart => exact ⟨fr, rfl, hft, Lib.hid rfl, rfl⟩
  case round =>
    obtain ⟨a, rfl, ha, HT, rfl⟩ := hrel
    by_cases hlt : a < tz
    · have p0 := HP.out a (by omega)
      have hat : a < ts.length := by omega
      by_cases hk : (Tk.tk ts a).1 = 1
      · have HV : Hid (Ns.trA ts tz fr = Ns.trA ts tz (a + 1)) := Lib.hid (by rw [HT.out, Ns.trA_on ⟨hlt, hk⟩])
        rw [hk] at p0
        clear hk HT
        go_wp2_with fail
        go_roundw
        case rel => exact ⟨a + 1, by go_num, by omega, HV, trivial⟩
        case measure => simp [RowKit.intOf]; omega
      · have HE : Hid (Ns.trA ts tz fr = a) := Lib.hid (by rw [HT.out, Ns.trA_end (fun c => hk c.2)])
        have hkb : ((Tk.tk ts a).1 == 1) = false := beq_false_of_ne hk
        clear hk HT
        generalize (Tk.tk ts a).1 = ka at *
        go_wp2_with fail
        clear p0 hkb
        go_loopw [2] (fun v2 wi => ∃ b : Nat, v2 = .int .i64 b ∧ b ≤ tz ∧ Hid (Ns.trB ts a tz = Ns.trB ts a b) ∧ wi = wr) (fun v2 _ => (RowKit.intOf v2).toNat)
        case atStart => exact ⟨tz, rfl, Nat.le_refl _, Lib.hid rfl, rfl⟩
        case round =>
          obtain ⟨b, rfl, hb, HU, rfl⟩ := hrel
          by_cases hab : a < b
          · obtain ⟨m, rfl⟩ : ∃ m, b = m + 1 := ⟨b - 1, by omega⟩
            have p1 := HP.out m (by omega)
            have hbt : m < ts.length := by omega
            by_cases hk1 : (Tk.tk ts m).1 = 1
            · have HV : Hid (Ns.trB ts a tz = Ns.trB ts a m) := Lib.hid (by rw [HU.out, Ns.trB_on ⟨by omega, hk1⟩])
              rw [hk1] at p1
              clear hk1 HU
              go_wp2_with fail
              go_roundw
              case rel => exact ⟨m, by first | rfl | go_num, by omega, HV, trivial⟩
              case measure => simp [RowKit.intOf]; try omega
            · have HV : Hid (Ns.trB ts a tz = m + 1) := Lib.hid (by rw [HU.out, Ns.trB_end (fun c => hk1 c.2)])
              have hkb : ((Tk.tk ts m).1 == 1) = false := beq_false_of_ne hk1
              clear hk1 HU
              generalize (Tk.tk ts m).1 = kb at *
              go_wp2_with fail
              go_ret2
              exact ⟨by rw [HE.out, HV.out]; try rfl, Below.refl _ _⟩
          · have HV : Hid (Ns.trB ts a tz = b) := Lib.hid (by rw [HU.out, Ns.trB_low (by omega)])
            clear HU
            go_wp2_with fail
            go_ret2
            exact ⟨by rw [HE.out, HV.out]; try rfl, Below.refl _ _⟩
    · have HE : Hid (Ns.trA ts tz fr = a) := Lib.hid (by rw [HT.out, Ns.trA_end (fun c => hlt c.1)])
      clear HT
      go_wp2_with fail
      go_loopw [2] (fun v2 wi => ∃ b : Nat, v2 = .int .i64 b ∧ b ≤ tz ∧ Hid (Ns.trB ts a tz = Ns.trB ts a b) ∧ wi = wr) (fun v2 _ => (RowKit.intOf v2).toNat)
      case atStart => exact ⟨tz, rfl, Nat.le_refl _, Lib.hid rfl, rfl⟩
      case round =>
        obtain ⟨b, rfl, hb, HU, rfl⟩ := hrel
        by_cases hab : a < b
        · omega
        · have HV : Hid (Ns.trB ts a tz = b) := Lib.hid (by rw [HU.out, Ns.trB_low (by omega)])
          clear HU
          go_wp2_with fail
          go_ret2
          exact ⟨by rw [HE.out, HV.out]; try rfl, Below.refl _ _⟩
set_option maxHeartbeats 1000000 in
set_option maxRecDepth 100000 in
theorem rtrim_nil (A : Option Addr) (ca : Nat) (w : World) :
    Calls Try.prog 19 #[.slice A 0 ca, .int .i64 0, .int .i64 0] w (Tw 0 0 w) := by
  go_enter Try.func19, Try.ntmps19
  go_wp2_with fail
  go_loopw [1] (fun v1 wr => v1 = .int .i64 0 ∧ wr = w) (fun _ _ => 0)
  case atStart => exact ⟨rfl, rfl⟩
  case round =>
    obtain ⟨rfl, rfl⟩ := hrel
    go_wp2_with fail
    go_loopw [2] (fun v2 wi => v2 = .int .i64 0 ∧ wi = wr) (fun _ _ => 0)
    case atStart => exact ⟨rfl, rfl⟩
    case round =>
      obtain ⟨rfl, rfl⟩ := hrel
      go_wp2_with fail
      go_ret2
      exact ⟨rfl, Below.refl _ _⟩
theorem rtrim_any (ts : List Tk.Tok) (hm : ts.length ≤ 65536) (A : Option Addr) (ca : Nat) (fr tz : Nat) (hft : fr ≤ tz) (hto : tz ≤ ts.length) (w : World) (h : Ts w w.heap.size A ts) :
    Calls Try.prog 19 #[.slice A ts.length ca, .int .i64 fr, .int .i64 tz] w (Tw (Ns.trA ts tz fr) (Ns.trB ts (Ns.trA ts tz fr) tz) w) := by
  by_cases h0 : 0 < ts.length
  · obtain ⟨bb, off, rfl, _, hp⟩ := h h0
    exact rtrim_some ts hm bb off ca fr tz hft hto w fun j hj => (hp j hj).1
  · obtain rfl : tz = 0 := by omega
    obtain rfl : fr = 0 := by omega
    have e : ts.length = 0 := by omega
    rw [e, Ns.trA_end (fun c => by omega)]
    exact rtrim_nil A ca w
set_option maxHeartbeats 1000000 in
set_option maxRecDepth 100000 in
theorem lsame_any (l : List Int) (A C : Option Addr) (ca cb : Nat) (w : World) (hm : l.length ≤ 65536) (hA : Bs w w.heap.size .i64 A l) (hC : Bs w w.heap.size .i64 C l) :
    Calls Try.prog 14 #[.slice A l.length ca, .slice C l.length cb] w (Yes w) := by
  have HA := Lib.hid hA
  have HC := Lib.hid hC
  clear hA hC
  go_enter Try.func14, Try.ntmps14
  go_wp2_with fail
  go_loopw [13] (fun v13 wr => ∃ k : Nat, k ≤ l.length ∧ v13 = .int .i64 k ∧ Below w.heap.size w wr) (fun v13 _ => l.length - (RowKit.intOf v13).toNat)
  case atStart => exact ⟨0, Nat.zero_le _, rfl, Below.refl _ _⟩
  case round =>
    obtain ⟨k, hk, rfl, hb⟩ := hrel
    have HB := Lib.hid hb
    clear hb
    by_cases hlt : k < l.length
    · obtain ⟨b, off, rfl, _, hp⟩ := HA.out.next HB.out (by omega)
      obtain ⟨b2, off2, rfl, _, hp2⟩ := HC.out.next HB.out (by omega)
      have p0 := hp k hlt
      have q0 := hp2 k hlt
      clear hp hp2
      generalize Ru.g l k = x at *
      go_wp2_with fail
      go_quiet (fail)
      go_wp2_with fail
      go_roundw
      case rel => exact ⟨k + 1, by omega, by go_num, below_drewN HB.out _⟩
      case measure => simp [RowKit.intOf]; omega
    · go_wp2_with fail
      go_ret
      exact ⟨rfl, HB.out⟩
end Go.Proofs.Ytpjdaenmfdcjhaa

/-
  The walks of the reference's Skip and Places.
-/
namespace Go.Proofs.Ytpjdaenmfdcjhaa
open Go.RowKit

set_option maxHeartbeats 4000000 in
set_option maxRecDepth 100000 in
theorem rskip_any (es : List Int) (hF : Ns.Fit es) (A : Option Addr) (cap : Nat) (a : Int) (ha : -1152921504606846976 ≤ a ∧ a ≤ 1152921504606846976) (w : World) (h : Bs w w.heap.size .i64 A es) :
    Calls Try.prog 23 #[.slice A es.length cap, .int .i64 a] w fun e w' => e = .returned (.int .i64 (Ns.skp es a)) ∧ w = w' := by
  have hm := hF.1
  by_cases h0 : 0 ≤ a
  · have d0 : decide (0 ≤ a) = true := decide_eq_true h0
    by_cases h1 : a < es.length
    · have d1 : decide (a < (es.length : Int)) = true := decide_eq_true h1
      obtain ⟨b, off, rfl, hb, hp⟩ := h (by omega)
      have p0 := hp a.toNat (by omega)
      have hr := hF.2 a.toNat (by omega)
      clear hp h
      by_cases h2 : a ≤ Ru.g es a.toNat
      · have d2 : decide (a ≤ Ru.g es a.toNat) = true := decide_eq_true h2
        have HV := Lib.hid (Ns.skp_yes h0 h1 h2)
        clear hF
        generalize Ru.g es a.toNat = x at *
        go_enter Try.func23, Try.ntmps23
        go_wp2_with fail
        go_ret
        exact ⟨by rw [HV.out]; rfl, rfl⟩
      · have d2 : decide (a ≤ Ru.g es a.toNat) = false := decide_eq_false h2
        have HV := Lib.hid (Ns.skp_no (es := es) (a := a) (fun h => h2 h.2.2))
        clear hF
        generalize Ru.g es a.toNat = x at *
        go_enter Try.func23, Try.ntmps23
        go_wp2_with fail
        go_ret
        exact ⟨by rw [HV.out]; rfl, rfl⟩
    · have d1 : decide (a < (es.length : Int)) = false := decide_eq_false h1
      have HV := Lib.hid (Ns.skp_no (es := es) (a := a) (fun h => h1 h.2.1))
      clear h hF
      go_enter Try.func23, Try.ntmps23
      go_wp2_with fail
      go_ret
      exact ⟨by rw [HV.out]; rfl, rfl⟩
  · have d0 : decide (0 ≤ a) = false := decide_eq_false h0
    have HV := Lib.hid (Ns.skp_no (es := es) (a := a) (fun h => h0 h.1))
    clear h hF
    go_enter Try.func23, Try.ntmps23
    go_wp2_with fail
    go_ret
    exact ⟨by rw [HV.out]; rfl, rfl⟩
/-- the loop's row: the places so far, and those tz come -/
def PlcAt (es : List Int) (from_ tz : Nat) (w : World) (v7 v8 : Value) (wr : World) : Prop :=
  ∃ (a : Nat) (pre : List Nat), v8 = .int .i64 a ∧ a ≤ es.length ∧ pre.length ≤ a ∧ Hid (Ns.plc es tz from_ = pre ++ Ns.plc es tz a) ∧ Ow 3 1 w v7 (Ns.ni pre).length (nums .i64 (Ns.ni pre)) wr
set_option maxHeartbeats 4000000 in
set_option maxRecDepth 100000 in
theorem rplaces_any (es : List Int) (hF : Ns.Fit es) (A : Option Addr) (cap : Nat) (from_ tz : Nat) (hft : from_ ≤ tz) (hto : tz ≤ es.length) (w : World) (h : Bs w w.heap.size .i64 A es) :
    Calls Try.prog 32 #[.slice A es.length cap, .int .i64 from_, .int .i64 tz] w (Told .i64 (Ns.ni (Ns.plc es tz from_)) w) := by
  have hm := hF.1
  have HS : Hid (∀ (a : Nat) (W : World), a ≤ 65536 → Below w.heap.size w W → Calls Try.prog 23 #[.slice A es.length cap, .int .i64 a] W fun e w' => e = .returned (.int .i64 ((Ns.sk es a : Nat) : Int)) ∧ W = w') :=
    Lib.hid fun a W h2 hb => by rw [Ns.sk_eq]; exact rskip_any es hF A cap a (by omega) W (h.next hb)
  clear h hF
  go_enter Try.func32, Try.ntmps32
  go_wp2_with fail
  go_loopw [7, 8] (fun v7 v8 wr => PlcAt es from_ tz w v7 v8 wr) (fun _ v8 _ => tz - (RowKit.intOf v8).toNat)
  case atStart => exact ⟨from_, [], rfl, by omega, Nat.zero_le _, Lib.hid rfl, Ow.start _ _ (Below.refl _ _)⟩
  case round =>
    obtain ⟨a, pre, rfl, hal, hpl, HP, hown⟩ := hrel
    have HO := Lib.hid hown
    have hnl := Ns.ni_len pre
    have hl : (Ns.ni pre).length ≤ 1000000 := by omega
    clear hown hnl
    by_cases hlt : a < tz
    · have CS := Lib.hid (fun W => HS.out a W (by omega))
      have hg := Ns.sk_gt es a
      have hk : Ns.sk es a ≤ es.length := Ns.sk_le (by omega)
      have HP2 : Hid (Ns.plc es tz from_ = (pre ++ [a]) ++ Ns.plc es tz (Ns.sk es a)) := Lib.hid (by rw [HP.out, Ns.plc_on hlt]; simp)
      have HN : Hid (Ns.ni (pre ++ [a]) = Ns.ni pre ++ [(a : Int)]) := Lib.hid (Ns.ni_app _ _)
      generalize Ns.sk es a = b at *
      generalize Ns.ni pre = nl at *
      go_wp2_with (first | (at_builtin; refine app_int rfl _ _ rfl rfl HO.out (a : Int) _ _ rfl hl ?_; intro v' w3 H3; have HO3 := Lib.hid H3; clear H3) | (go_at_call 23; ((with_reducible refine (CS.out _ HO3.out.bel).mono ?_); rintro e w4 ⟨rfl, rfl⟩)))
      go_roundw
      case rel => exact ⟨b, pre ++ [a], rfl, hk, by simp; omega, HP2, by rw [HN.out]; exact HO3.out⟩
      case measure => simp [RowKit.intOf]; omega
    · have HE : Hid (Ns.plc es tz from_ = pre) := Lib.hid (by rw [HP.out, Ns.plc_end hlt, List.append_nil])
      go_wp2_with fail
      go_ret
      obtain ⟨A9, c9, hv, hc9, hB⟩ := own_form HO.out.own
      subst hv
      rw [HE.out]
      exact ⟨A9, c9, rfl, hc9, hB, HO.out.bel⟩
end Go.Proofs.Ytpjdaenmfdcjhaa

/-
  The walks of the reference's Find, Split and Trim.
-/
namespace Go.Proofs.Ytpjdaenmfdcjhaa
open Go.RowKit

namespace Ns
open Tk
def isK (ts : List Tok) (kd : Int) (p : Nat) : Bool := decide ((tk ts p).1 = kd)
theorem drop_at {pl : List Nat} {k : Nat} (h : k < pl.length) : pl.drop k = pl.getD k 0 :: pl.drop (k + 1) := by
  rw [List.drop_eq_getElem_cons h, List.getD_eq_getElem?_getD, List.getElem?_eq_getElem h]; rfl
theorem at_mem {pl : List Nat} {k : Nat} (h : k < pl.length) : pl.getD k 0 ∈ pl := by
  rw [List.getD_eq_getElem?_getD, List.getElem?_eq_getElem h]; exact List.getElem_mem h
end Ns
/-- a number, and new memory at most -/
def Nu (n : Int) (w : World) (e : Ending) (w' : World) : Prop := e = .returned (.int .i64 n) ∧ Below w.heap.size w w'

set_option maxHeartbeats 4000000 in
set_option maxRecDepth 100000 in
theorem rfind_any (ts : List Tk.Tok) (es : List Int) (hF : Ns.Fit es) (hl : es.length ≤ ts.length) (A C : Option Addr) (ca cc : Nat) (fr tz : Nat) (hft : fr ≤ tz) (hto : tz ≤ es.length) (kd : Int) (w : World) (h : Ts w w.heap.size A ts) (h2 : Bs w w.heap.size .i64 C es) :
    Calls Try.prog 21 #[.slice A ts.length ca, .slice C es.length cc, .int .i64 fr, .int .i64 tz, .int .i64 kd, .string ⟨#[]⟩] w (Nu (Ns.fnd (Ns.isK ts kd) (Ns.plc es tz fr)) w) := by
  have hm := hF.1
  have CP := Lib.hid (rplaces_any es hF C cc fr tz hft hto w h2)
  have H := Lib.hid h
  have HM : Hid (∀ x ∈ Ns.plc es tz fr, x < tz) := Lib.hid fun x hx => (Ns.plc_mem _ (Nat.le_refl _) hx).2
  have hpl := Ns.plc_len (es := es)  (tz - fr) fr (Nat.le_refl _)
  clear h h2 hF
  generalize Ns.plc es tz fr = pl at *
  have hnl := Ns.ni_len pl
  have HNL := Lib.hid hnl
  clear hnl
  go_enter Try.func21, Try.ntmps21
  go_wp2_with (go_at_call 32; ((with_reducible refine (CP.out).mono ?_); rintro e w1 ⟨A1, c1, rfl, hc1, B1, b1⟩; have HB1 := Lib.hid b1; have HB := Lib.hid B1; clear b1 B1))
  go_loopw [14] (fun v14 wr => ∃ k : Nat, k ≤ pl.length ∧ v14 = .int .i64 k ∧ Hid (Ns.fnd (Ns.isK ts kd) pl = Ns.fnd (Ns.isK ts kd) (pl.drop k)) ∧ wr = w1) (fun v14 _ => pl.length - (RowKit.intOf v14).toNat)
  case atStart => exact ⟨0, Nat.zero_le _, rfl, Lib.hid rfl, rfl⟩
  case round =>
    obtain ⟨k, hk, rfl, HK, rfl⟩ := hrel
    by_cases hlt : k < pl.length
    · have d1 : decide (k < (Ns.ni pl).length) = true := decide_eq_true (by rw [HNL.out]; exact hlt)
      have hx := HM.out _ (Ns.at_mem hlt)
      have hd := Ns.drop_at hlt
      obtain ⟨b, off, rfl, hb, hp⟩ := HB.out (by rw [HNL.out]; omega)
      have p0 := hp k (by rw [HNL.out]; exact hlt)
      rw [Ns.ni_g hlt] at p0
      obtain ⟨bb, off2, rfl, hbb, hp2⟩ := (H.out.next HB1.out) (by omega)
      obtain ⟨q0, _, _⟩ := hp2 (pl.getD k 0) (by omega)
      have hkn : k < (Ns.ni pl).length := by rw [HNL.out]; exact hlt
      have hxl : pl.getD k 0 < ts.length := by omega
      have hwr : IntKind.i64.wrap ((k : Int) + 1) = (k : Int) + 1 := IntWalk.i64_in _ (by omega)
      clear hp hp2 HM
      by_cases hy : (Tk.tk ts (pl.getD k 0)).1 = kd
      · have HV : Hid (Ns.fnd (Ns.isK ts kd) pl = ((pl.getD k 0 : Nat) : Int)) := Lib.hid (by rw [HK.out, hd, Ns.fnd, if_pos (show Ns.isK ts kd (pl.getD k 0) = true from decide_eq_true hy)])
        rw [hy] at q0
        clear hd HK hy d1
        generalize pl.getD k 0 = x at *
        go_wp2_with fail
        go_ret
        exact ⟨by rw [HV.out]; rfl, HB1.out⟩
      · have HV : Hid (Ns.fnd (Ns.isK ts kd) pl = Ns.fnd (Ns.isK ts kd) (pl.drop (k + 1))) := Lib.hid (by rw [HK.out, hd, Ns.fnd, if_neg (fun (c : Ns.isK ts kd (pl.getD k 0) = true) => hy (of_decide_eq_true c))])
        have hyb : ((Tk.tk ts (pl.getD k 0)).1 == kd) = false := beq_false_of_ne hy
        clear hd HK hy d1
        generalize pl.getD k 0 = x at *
        go_wp2_with fail
        go_roundw
        case rel => exact ⟨k + 1, by omega, by go_num, HV, trivial⟩
        case measure => simp [RowKit.intOf]; omega
    · have hlt2 : ¬ k < (Ns.ni pl).length := by rw [HNL.out]; exact hlt
      have HV : Hid (Ns.fnd (Ns.isK ts kd) pl = -1) := Lib.hid (by rw [HK.out, List.drop_eq_nil_of_le (by omega)]; rfl)
      go_wp2_with fail
      go_ret
      exact ⟨by rw [HV.out]; rfl, HB1.out⟩
/-- the loop's row: the parts so far -/
def SplAt (ts : List Tk.Tok) (kd : Int) (tz : Nat) (pl : List Nat) (fr : Nat) (w : World) (v11 v12 v14 : Value) (wr : World) : Prop :=
  ∃ (k bg : Nat) (pre : List (Nat × Nat)), k ≤ pl.length ∧ v14 = .int .i64 k ∧ v12 = .int .i64 bg ∧ bg ≤ tz ∧ pre.length ≤ k ∧ Hid (Ns.spl (Ns.isK ts kd) tz pl fr = pre ++ Ns.spl (Ns.isK ts kd) tz (pl.drop k) bg) ∧ Ow 39 2 w v11 pre.length (prC pre) wr
set_option maxHeartbeats 4000000 in
set_option maxRecDepth 100000 in
theorem rsplit_any (ts : List Tk.Tok) (es : List Int) (hF : Ns.Fit es) (hl : es.length ≤ ts.length) (A C : Option Addr) (ca cc : Nat) (fr tz : Nat) (hft : fr ≤ tz) (hto : tz ≤ es.length) (kd : Int) (w : World) (h : Ts w w.heap.size A ts) (h2 : Bs w w.heap.size .i64 C es) :
    Calls Try.prog 20 #[.slice A ts.length ca, .slice C es.length cc, .int .i64 fr, .int .i64 tz, .int .i64 kd] w (ToldP (Ns.spl (Ns.isK ts kd) tz (Ns.plc es tz fr) fr) w) := by
  have hm := hF.1
  have CP := Lib.hid (rplaces_any es hF C cc fr tz hft hto w h2)
  have H := Lib.hid h
  have HM : Hid (∀ x ∈ Ns.plc es tz fr, x < tz) := Lib.hid fun x hx => (Ns.plc_mem _ (Nat.le_refl _) hx).2
  have hpl := Ns.plc_len (es := es) (tz - fr) fr (Nat.le_refl (tz - fr))
  clear h h2 hF
  generalize Ns.plc es tz fr = pl at *
  have hnl := Ns.ni_len pl
  have HNL := Lib.hid hnl
  clear hnl
  go_enter Try.func20, Try.ntmps20
  go_wp2_with (go_at_call 32; ((with_reducible refine (CP.out).mono ?_); rintro e w1 ⟨A1, c1, rfl, hc1, B1, b1⟩; have HB1 := Lib.hid b1; have HB := Lib.hid B1; clear b1 B1))
  go_loopw [11, 12, 14] (fun v11 v12 v14 wr => SplAt ts kd tz pl fr w1 v11 v12 v14 wr) (fun _ _ v14 _ => pl.length - (RowKit.intOf v14).toNat)
  case atStart => exact ⟨0, fr, [], Nat.zero_le _, rfl, rfl, hft, Nat.zero_le _, Lib.hid rfl, Ow.start _ _ (Below.refl _ _)⟩
  case round =>
    obtain ⟨k, bg, pre, hk, rfl, rfl, hbg, hpre, HK, hown⟩ := hrel
    have HO := Lib.hid hown
    have hp1 : pre.length ≤ 1000000 := by omega
    clear hown
    by_cases hlt : k < pl.length
    · have hx := HM.out _ (Ns.at_mem hlt)
      have hd := Ns.drop_at hlt
      obtain ⟨b, off, rfl, hb, hp⟩ := HB.out (by rw [HNL.out]; omega)
      have p0' := hp k (by rw [HNL.out]; exact hlt)
      rw [Ns.ni_g hlt] at p0'
      have CC : Hid (∀ W, Below w1.heap.size w1 W → W.cell? ⟨b, off + k, none⟩ = some (.int .i64 ((pl.getD k 0 : Nat) : Int))) := Lib.hid fun W hbw => (hbw.cell (p := ⟨b, off + k, none⟩) hb).trans p0'
      have p0 := CC.out _ HO.out.bel
      clear p0'
      obtain ⟨bb, off2, rfl, hbb, hp2⟩ := (H.out.next (below_next HB1.out HO.out.bel)) (by omega)
      obtain ⟨q0, _, _⟩ := hp2 (pl.getD k 0) (by omega)
      have hkn : k < (Ns.ni pl).length := by rw [HNL.out]; exact hlt
      have hxl : pl.getD k 0 < ts.length := by omega
      have hwr : IntKind.i64.wrap ((k : Int) + 1) = (k : Int) + 1 := IntWalk.i64_in _ (by omega)
      clear hp hp2
      by_cases hy : (Tk.tk ts (pl.getD k 0)).1 = kd
      · rw [hy] at q0
        by_cases hbx : bg ≤ pl.getD k 0
        · have HV : Hid (Ns.spl (Ns.isK ts kd) tz pl fr = (pre ++ [(bg, pl.getD k 0)]) ++ Ns.spl (Ns.isK ts kd) tz (pl.drop (k + 1)) (pl.getD k 0 + 1)) := Lib.hid (by rw [HK.out, hd, Ns.spl, if_pos (show Ns.isK ts kd (pl.getD k 0) = true ∧ bg ≤ pl.getD k 0 from ⟨decide_eq_true hy, hbx⟩)]; simp)
          have d2 : decide (bg ≤ pl.getD k 0) = true := decide_eq_true hbx
          clear hd HK hy
          generalize pl.getD k 0 = x at *
          go_wp2_with (at_builtin; refine app_pair rfl _ _ rfl rfl HO.out bg x _ _ rfl hp1 ?_; intro v' w3 H3; have HO3 := Lib.hid H3; have p3 := CC.out w3 H3.bel; clear H3)
          go_roundw
          case rel => exact ⟨k + 1, x + 1, pre ++ [(bg, x)], by omega, by go_num, by go_num, by omega, by simp; omega, HV, HO3.out⟩
          case measure => simp [RowKit.intOf]; omega
        · have HV : Hid (Ns.spl (Ns.isK ts kd) tz pl fr = pre ++ Ns.spl (Ns.isK ts kd) tz (pl.drop (k + 1)) bg) := Lib.hid (by rw [HK.out, hd, Ns.spl, if_neg (fun (c : Ns.isK ts kd (pl.getD k 0) = true ∧ bg ≤ pl.getD k 0) => hbx c.2)])
          have d2 : decide (bg ≤ pl.getD k 0) = false := decide_eq_false hbx
          clear hd HK hy
          generalize pl.getD k 0 = x at *
          go_wp2_with fail
          go_roundw
          case rel => exact ⟨k + 1, bg, pre, by omega, by go_num, rfl, hbg, by omega, HV, HO.out⟩
          case measure => simp [RowKit.intOf]; omega
      · have HV : Hid (Ns.spl (Ns.isK ts kd) tz pl fr = pre ++ Ns.spl (Ns.isK ts kd) tz (pl.drop (k + 1)) bg) := Lib.hid (by rw [HK.out, hd, Ns.spl, if_neg (fun (c : Ns.isK ts kd (pl.getD k 0) = true ∧ bg ≤ pl.getD k 0) => hy (of_decide_eq_true c.1))])
        have hyb : ((Tk.tk ts (pl.getD k 0)).1 == kd) = false := beq_false_of_ne hy
        clear hd HK hy
        generalize pl.getD k 0 = x at *
        go_wp2_with fail
        go_roundw
        case rel => exact ⟨k + 1, bg, pre, by omega, by go_num, rfl, hbg, by omega, HV, HO.out⟩
        case measure => simp [RowKit.intOf]; omega
    · have hlt2 : ¬ k < (Ns.ni pl).length := by rw [HNL.out]; exact hlt
      have HV : Hid (Ns.spl (Ns.isK ts kd) tz pl fr = pre ++ [(bg, tz)]) := Lib.hid (by rw [HK.out, List.drop_eq_nil_of_le (by omega)]; rfl)
      go_wp2_with (at_builtin; refine app_pair rfl _ _ rfl rfl HO.out bg tz _ _ rfl hp1 ?_; intro v' w3 H3; have HO3 := Lib.hid H3; clear H3)
      go_ret
      obtain ⟨A9, c9, rfl, hc9⟩ := HO3.out.form
      rw [HV.out]
      exact ⟨A9, c9, rfl, hc9, Bs.of_own2 HO3.out.own, below_next HB1.out HO3.out.bel⟩
end Go.Proofs.Ytpjdaenmfdcjhaa

/-
  The walk of the reference's Close.
-/
namespace Go.Proofs.Ytpjdaenmfdcjhaa
open Go.RowKit

set_option maxHeartbeats 4000000 in
set_option maxRecDepth 100000 in
theorem rclose_any (k : Int) (t : ByteArray) (n : Int) (w : World) : Calls Try.prog 25 #[tokV k t n] w (Sg (Ns.clo (k, t, n)) w) := by
  obtain ⟨W0, hW⟩ : ∃ W0, W0 = w.alloc (.cells #[.int .i64 k, .string t, .int .i64 n] 31) := ⟨_, rfl⟩
  have hb0 : Below w.heap.size w W0 := by rw [hW]; exact (Below.refl _ _).alloc (Nat.le_refl _) _
  have k0 : W0.heap[w.heap.size]? = some (.cells #[.int .i64 k, .string t, .int .i64 n] 31 (0, 0)) := by rw [hW]; exact heap_alloc_new w _
  obtain ⟨q0, q1, q2⟩ := tok3_cells k0
  have HB0 := Lib.hid hb0
  have HW := Lib.hid hW
  clear hb0 k0 hW
  unfold tokV
  by_cases h3 : k = 3
  · subst h3
    have HV : Hid (Ns.clo (3, t, n) = ⟨#[41]⟩) := Lib.hid (by unfold Ns.clo; rw [if_pos (.inl rfl)])
    go_enter Try.func25, Try.ntmps25
    go_upto_region 1 with fail
    rw [← HW.out]
    go_wp2_with fail
    go_ret
    exact ⟨by rw [HV.out]; rfl, HB0.out⟩
  · have e3 : (k == 3) = false := beq_false_of_ne h3
    by_cases h12 : k = 12
    · subst h12
      clear h3
      have cases4 : t = ⟨#[40]⟩ ∨ t = ⟨#[91]⟩ ∨ t = ⟨#[123]⟩ ∨ ((t.toList == [40]) = false ∧ (t.toList == [91]) = false ∧ (t.toList == [123]) = false) := by
        rw [str_test, str_test, str_test]
        by_cases a : t = ⟨#[40]⟩
        · exact .inl a
        · by_cases b : t = ⟨#[91]⟩
          · exact .inr (.inl b)
          · by_cases c : t = ⟨#[123]⟩
            · exact .inr (.inr (.inl c))
            · exact .inr (.inr (.inr ⟨decide_eq_false a, decide_eq_false b, decide_eq_false c⟩))
      have HV : Hid (t = ⟨#[40]⟩ ∨ t = ⟨#[91]⟩ ∨ t = ⟨#[123]⟩ ∨ Ns.clo (12, t, n) = ⟨#[]⟩) := Lib.hid (by
        rcases cases4 with h | h | h | ⟨h1, h2, h3⟩
        · exact .inl h
        · exact .inr (.inl h)
        · exact .inr (.inr (.inl h))
        · rw [str_test] at h1 h2 h3
          refine .inr (.inr (.inr ?_))
          unfold Ns.clo
          rw [if_neg (fun h => h.elim (fun h => by cases h) (fun h => of_decide_eq_false h1 h.2)), if_neg (fun h => of_decide_eq_false h2 h.2), if_neg (fun h => of_decide_eq_false h3 h.2)])
      rcases cases4 with rfl | rfl | rfl | ⟨e4, e5, e6⟩
      · clear HV
        go_enter Try.func25, Try.ntmps25
        go_upto_region 1 with fail
        rw [← HW.out]
        go_wp2_with fail
        go_ret
        exact ⟨rfl, HB0.out⟩
      · clear HV
        go_enter Try.func25, Try.ntmps25
        go_upto_region 1 with fail
        rw [← HW.out]
        go_wp2_with fail
        go_ret
        exact ⟨rfl, HB0.out⟩
      · clear HV
        go_enter Try.func25, Try.ntmps25
        go_upto_region 1 with fail
        rw [← HW.out]
        go_wp2_with fail
        go_ret
        exact ⟨rfl, HB0.out⟩
      · have HV2 : Hid (Ns.clo (12, t, n) = ⟨#[]⟩) := Lib.hid (by
          rcases HV.out with h | h | h | h
          · rw [str_test] at e4; exact absurd h (of_decide_eq_false e4)
          · rw [str_test] at e5; exact absurd h (of_decide_eq_false e5)
          · rw [str_test] at e6; exact absurd h (of_decide_eq_false e6)
          · exact h)
        clear HV
        go_enter Try.func25, Try.ntmps25
        go_upto_region 1 with fail
        rw [← HW.out]
        go_wp2_with fail
        go_ret
        exact ⟨by rw [HV2.out]; rfl, HB0.out⟩
    · have e12 : (k == 12) = false := beq_false_of_ne h12
      have HV : Hid (Ns.clo (k, t, n) = ⟨#[]⟩) := Lib.hid (Ns.clo_none (Ns.not_O h3 h12))
      clear h3 h12
      go_enter Try.func25, Try.ntmps25
      go_upto_region 1 with fail
      rw [← HW.out]
      go_wp2_with fail
      go_ret
      exact ⟨by rw [HV.out]; rfl, HB0.out⟩
end Go.Proofs.Ytpjdaenmfdcjhaa
