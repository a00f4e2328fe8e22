/-
  The walk of print's write.
-/
import Derived.Test.YtkcabpjfgbghjaaGreatDoorGae
import Derived.Test.YtkcabpjfgbghjaaGreatDoorGaf
import Derived.Test.YtkcabpjfgbghjaaGreatDoorGaa
import Derived.ProofKit
import Derived.OpenShut
import Derived.ShutString
import Derived.ChangeSame
import Derived.Lib.SmallJoins
import Derived.Lib.LaidTab
import Derived.Deep.Slices
import Derived.Deep.SlicePairs
import Derived.Deep.Strs
import Derived.DataShut
import Derived.Test.YtkcabpjfgbghjaaGreatDoorGad
import Derived.Lib.LaidU8T
import Derived.Test.YtkcabpjfgbghjaaGreatDoorGac
import Derived.Laws.StructEq
import Derived.Deep.QuietTactic
import Derived.BigQuiet
namespace Go.Proofs.YtkcabpjfgbghjaaGreatDoor
set_option maxHeartbeats 16000000
set_option maxRecDepth 100000
open Go.RowKit
theorem Bw.block {b k : Nat} {w w1 : World} {cs : Array Value} {E : TypeId} (h : Bw b w w1) (hk : w.heap[k]? = some (.cells cs E (0, 0))) (hb : k ≠ b) (hE : E ≠ 5) : w1.heap[k]? = some (.cells cs E (0, 0)) :=
 h.2 k _ hk (by simpa using hb) (fun c fz e => by injection e with _ e _; exact hE e)
end Go.Proofs.YtkcabpjfgbghjaaGreatDoor
namespace Go.Proofs.YtkcabpjfgbghjaaGreatDoor
open Go.RowKit Go.Maps
def kindAt (c : Nat) (kd : Int) : Value := if 1 <= kd /\ kd <= 16 then kval c kd.toNat else kval c 0
theorem zero_kind (w : World) : (zeroValue 124).run Tryz.prog w = .ok (kval 0 0) w := by kernel_rfl
theorem kinds_look {w : World} {M c : Nat} (h : Kinds w M c) (kd : Int) (hk : I64 kd) : (Instr.lookup 111 (.map (some M)) (.int .i64 kd) false).run Tryz.prog w = .ok (kindAt c kd) w := by
 obtain ⟨n, hm⟩ := h.m
 have K := int_keyed (P := Tryz.prog) Tryz.underlying3
 have hw : (Lit.int .i64 kd).wf = true := WalkArith.wf_i64 hk
 obtain ⟨v, ps, hrun, hv⟩ := hm.lookup K Tryz.underlying111 (zero_kind w) (zd := .held (kval 0 0)) (zp := []) rfl (keyOf_int_mk Tryz.underlying3 hw)
 rw [hrun]
 have e : v = kindAt c kd := by
  rw [kD_at] at hv
  unfold rdV at hv
  simp only [Option.some.injEq, Prod.mk.injEq] at hv
  have hv := hv.1
  unfold kindAt
  by_cases h : 1 <= kd /\ kd <= 16
  ·rw [if_pos (by omega)] at hv
   rw [if_pos h]
   injection hv
  ·rw [if_neg (by omega)] at hv
   rw [if_neg h]
   injection hv
 rw [e]
theorem Kinds.below {w w1 : World} {M c B : Nat} (h : Kinds w M c) (hb : Below B w w1) (hM : M < B) (hc : c < B) : Kinds w1 M c := by
 obtain ⟨⟨n, es, clock, hm, r⟩, hn⟩ := h
 exact ⟨⟨n, es, clock, (hb.block M hM).trans hm, r⟩, (hb.block c hc).trans hn⟩
namespace Pr
open Ru Tk
def OneU (u : Tok) : Prop := ∃ p : PT, u = toTok p /\ One p
theorem oneU_iff (k n : Int) (t : ByteArray) : OneU (k, t, n) ↔ ∃ cs, Txt t cs /\ Ok cs /\ Kd k cs n := by
 constructor
 ·rintro ⟨⟨k', l, n'⟩, e, ho, hk⟩
  unfold toTok at e
  simp only [Prod.mk.injEq] at e
  obtain ⟨rfl, rfl, rfl⟩ := e
  exact ⟨l, txt_str fun c hc => (ho c hc).1, ho, hk⟩
 ·rintro ⟨cs, hx, ho, hk⟩
  exact ⟨(k, cs, n), by unfold toTok; simp only; rw [hx.str], ho, hk⟩
theorem txt_empty {t : ByteArray} : Txt t [] ↔ t = ⟨#[]⟩ := by
 constructor
 ·intro h; exact h.str
 ·rintro rfl; exact ⟨rfl, fun c hc => by cases hc⟩
theorem txt_asc {t : ByteArray} {c : Int} (h0 : 0 <= c) (h1 : c <= 127) : Txt t [c] ↔ bs t = [c] := by
 have e : wr [c] = [c] := wr_asc' (fun d hd => by rw [List.mem_singleton] at hd; omega)
 constructor
 ·intro h; rw [h.1, e]
 ·intro h; exact ⟨by rw [h, e], fun d hd => by rw [List.mem_singleton] at hd; subst hd; unfold Is; omega⟩
theorem ok_nil : Ok [] := fun c hc => by cases hc
theorem ok_one {c : Int} (h0 : 0 < c) (h1 : c < 128) : Ok [c] := fun d hd => by rw [List.mem_singleton] at hd; subst hd; exact ⟨by unfold Is; omega, by omega⟩
theorem bs_byte {t : ByteArray} (c : UInt8) : bs t = [(c.toNat : Int)] ↔ t = ⟨#[c]⟩ := by
 constructor
 ·intro h; exact bs_inj (by rw [h]; rfl)
 ·rintro rfl; rfl
theorem one_text {k n : Int} {t : ByteArray} {Q : List Int -> Prop} {N : Prop} (hk : ∀ cs, Kd k cs n ↔ Q cs /\ N) : OneU (k, t, n) ↔ (∃ cs, Txt t cs /\ Ok cs /\ Q cs) /\ N := by
 rw [oneU_iff]
 constructor
 ·rintro ⟨cs, h1, h2, h3⟩
  have := (hk cs).1 h3
  exact ⟨⟨cs, h1, h2, this.1⟩, this.2⟩
 ·rintro ⟨⟨cs, h1, h2, h3⟩, h4⟩
  exact ⟨cs, h1, h2, (hk cs).2 ⟨h3, h4⟩⟩
theorem q_nil {t : ByteArray} : (∃ cs, Txt t cs /\ Ok cs /\ cs = []) ↔ t = ⟨#[]⟩ := by
 constructor
 ·rintro ⟨cs, h1, _, rfl⟩; exact txt_empty.1 h1
 ·intro h; exact ⟨[], txt_empty.2 h, ok_nil, rfl⟩
theorem q_some {t : ByteArray} : (∃ cs, Txt t cs /\ Ok cs /\ cs ≠ []) ↔ (t ≠ ⟨#[]⟩ /\ Snd t) := by
 constructor
 ·rintro ⟨cs, h1, h2, h3⟩
  exact ⟨fun e => h3 (Txt.one h1 (txt_empty.2 e)), cs, h1, h2⟩
 ·rintro ⟨h, cs, h1, h2⟩
  exact ⟨cs, h1, h2, fun e => h (txt_empty.1 (by rw [<- e]; exact h1))⟩
theorem q_any {t : ByteArray} : (∃ cs, Txt t cs /\ Ok cs /\ True) ↔ Snd t := by
 constructor
 ·rintro ⟨cs, h1, h2, _⟩; exact ⟨cs, h1, h2⟩
 ·rintro ⟨cs, h1, h2⟩; exact ⟨cs, h1, h2, trivial⟩
theorem q_del {t : ByteArray} : (∃ cs, Txt t cs /\ Ok cs /\ ∃ c, cs = [c] /\ Del c) ↔ DelT t := by
 constructor
 ·rintro ⟨cs, h1, h2, c, rfl, h3⟩; exact ⟨c, h1, h2, h3⟩
 ·rintro ⟨c, h1, h2, h3⟩; exact ⟨[c], h1, h2, c, rfl, h3⟩
theorem q_three {t : ByteArray} (a b c : UInt8) (ha : 0 < a.toNat /\ a.toNat < 128) (hb : 0 < b.toNat /\ b.toNat < 128) (hc : 0 < c.toNat /\ c.toNat < 128) :
 (∃ cs, Txt t cs /\ Ok cs /\ (cs = [(a.toNat : Int)] ∨ cs = [(b.toNat : Int)] ∨ cs = [(c.toNat : Int)])) ↔ (t = ⟨#[a]⟩ ∨ t = ⟨#[b]⟩ ∨ t = ⟨#[c]⟩) := by
 have key : ∀ x : UInt8, 0 < x.toNat /\ x.toNat < 128 -> (Txt t [(x.toNat : Int)] ↔ t = ⟨#[x]⟩) := fun x hx => by rw [txt_asc (by omega) (by omega), bs_byte]
 constructor
 ·rintro ⟨cs, h1, _, rfl | rfl | rfl⟩
  ·exact .inl ((key a ha).1 h1)
  ·exact .inr (.inl ((key b hb).1 h1))
  ·exact .inr (.inr ((key c hc).1 h1))
 ·rintro (h | h | h)
  ·exact ⟨_, (key a ha).2 h, ok_one (by omega) (by omega), .inl rfl⟩
  ·exact ⟨_, (key b hb).2 h, ok_one (by omega) (by omega), .inr (.inl rfl)⟩
  ·exact ⟨_, (key c hc).2 h, ok_one (by omega) (by omega), .inr (.inr rfl)⟩
theorem q_opens {t : ByteArray} : (∃ cs, Txt t cs /\ Ok cs /\ (cs = [40] ∨ cs = [91] ∨ cs = [123])) ↔ (t = ⟨#[40]⟩ ∨ t = ⟨#[91]⟩ ∨ t = ⟨#[123]⟩) := q_three 40 91 123 (by decide) (by decide) (by decide)
theorem q_closes {t : ByteArray} : (∃ cs, Txt t cs /\ Ok cs /\ (cs = [41] ∨ cs = [93] ∨ cs = [125])) ↔ (t = ⟨#[41]⟩ ∨ t = ⟨#[93]⟩ ∨ t = ⟨#[125]⟩) := q_three 41 93 125 (by decide) (by decide) (by decide)
theorem kd_none {k n : Int} {l : List Int} (h : ¬ (1 <= k /\ k <= 16)) : ¬ Kd k l n := by
 unfold Kd
 rintro (⟨h1, _⟩ | ⟨h1, _⟩ | ⟨h1, _⟩ | ⟨h1, _⟩ | ⟨h1, _⟩ | ⟨h1, _⟩ | ⟨h1, _⟩ | ⟨h1, _⟩ | ⟨h1, _⟩) <;> omega
end Pr
theorem bool_of {b : Bool} {P Q : Prop} [Decidable Q] (hb : b = true ↔ P /\ Q) (q : Bool) (hq : q = true ↔ P) : (q && decide Q) = b := by
 rw [Bool.eq_iff_iff, Bool.and_eq_true, decide_eq_true_iff, hb, hq]
open Classical in
theorem fits_at (c : Nat) (kd n : Int) (t : ByteArray) (b : Bool) (hb : b = true ↔ Pr.OneU (kd, t, n)) (hm : t.size <= 9223372036854775807) (w : World) (hT : UTab w.heap.size w) :
 Calls Tryz.prog 134 #[kindAt c kd, tokV kd t n] w (Bo b w) := by
 rcases (show ¬ (1 <= kd /\ kd <= 16) ∨ kd = 1 ∨ kd = 2 ∨ kd = 3 ∨ kd = 4 ∨ kd = 5 ∨ kd = 6 ∨ kd = 7 ∨ kd = 8 ∨ kd = 9 ∨ kd = 10 ∨ kd = 11 ∨ kd = 12 ∨ kd = 13 ∨ kd = 14 ∨ kd = 15 ∨ kd = 16 by omega) with h | rfl | rfl | rfl | rfl | rfl | rfl | rfl | rfl | rfl | rfl | rfl | rfl | rfl | rfl | rfl | rfl
 ·obtain rfl : b = false := by
   rw [Bool.eq_false_iff]
   intro hh
   obtain ⟨cs, _, _, h3⟩ := (Pr.oneU_iff kd n t).1 (hb.1 hh)
   exact Pr.kd_none h h3
  unfold kindAt
  rw [if_neg h]
  exact nil_fits ⟨#[]⟩ ⟨#[]⟩ kd n t w
 ·rw [Pr.one_text (Q := fun cs => cs = []) (N := n = 0) (fun cs => by simp [Pr.Kd]), Pr.q_nil] at hb
  have hq : decide (t = ⟨#[]⟩) = true ↔ t = ⟨#[]⟩ := decide_eq_true_iff
  rw [<- bool_of hb _ hq]
  exact fits_empty0 _ _ _ _ _ 1 n t _ hq w
 ·rw [Pr.one_text (Q := fun cs => cs ≠ []) (N := n = 0) (fun cs => by simp [Pr.Kd]), Pr.q_some] at hb
  have hq : decide ((t ≠ ⟨#[]⟩ /\ Pr.Snd t)) = true ↔ (t ≠ ⟨#[]⟩ /\ Pr.Snd t) := decide_eq_true_iff
  rw [<- bool_of hb _ hq]
  exact fits_named0 _ _ _ _ _ 2 n t _ hq hm w hT
 ·rw [Pr.one_text (Q := fun cs => cs ≠ []) (N := n = 0) (fun cs => by simp [Pr.Kd]), Pr.q_some] at hb
  have hq : decide ((t ≠ ⟨#[]⟩ /\ Pr.Snd t)) = true ↔ (t ≠ ⟨#[]⟩ /\ Pr.Snd t) := decide_eq_true_iff
  rw [<- bool_of hb _ hq]
  exact fits_named0 _ _ _ _ _ 3 n t _ hq hm w hT
 ·rw [Pr.one_text (Q := fun cs => cs ≠ []) (N := n = 0) (fun cs => by simp [Pr.Kd]), Pr.q_some] at hb
  have hq : decide ((t ≠ ⟨#[]⟩ /\ Pr.Snd t)) = true ↔ (t ≠ ⟨#[]⟩ /\ Pr.Snd t) := decide_eq_true_iff
  rw [<- bool_of hb _ hq]
  exact fits_named0 _ _ _ _ _ 4 n t _ hq hm w hT
 ·rw [Pr.one_text (Q := fun cs => cs ≠ []) (N := n = 0) (fun cs => by simp [Pr.Kd]), Pr.q_some] at hb
  have hq : decide ((t ≠ ⟨#[]⟩ /\ Pr.Snd t)) = true ↔ (t ≠ ⟨#[]⟩ /\ Pr.Snd t) := decide_eq_true_iff
  rw [<- bool_of hb _ hq]
  exact fits_named0 _ _ _ _ _ 5 n t _ hq hm w hT
 ·rw [Pr.one_text (Q := fun cs => True) (N := n = 0) (fun cs => by simp [Pr.Kd]), Pr.q_any] at hb
  have hq : decide (Pr.Snd t) = true ↔ Pr.Snd t := decide_eq_true_iff
  rw [<- bool_of hb _ hq]
  exact fits_sound0 _ _ _ _ _ 6 n t _ hq hm w hT
 ·rw [Pr.one_text (Q := fun cs => True) (N := n = 0) (fun cs => by simp [Pr.Kd]), Pr.q_any] at hb
  have hq : decide (Pr.Snd t) = true ↔ Pr.Snd t := decide_eq_true_iff
  rw [<- bool_of hb _ hq]
  exact fits_sound0 _ _ _ _ _ 7 n t _ hq hm w hT
 ·rw [Pr.one_text (Q := fun cs => cs = []) (N := n = Fx.stop n) (fun cs => by simp [Pr.Kd]), Pr.q_nil] at hb
  have hq : decide (t = ⟨#[]⟩) = true ↔ t = ⟨#[]⟩ := decide_eq_true_iff
  rw [<- bool_of hb _ hq]
  exact fits_empty1 _ _ _ _ _ 8 n t _ hq w
 ·rw [Pr.one_text (Q := fun cs => cs = []) (N := n = Fx.stop n) (fun cs => by simp [Pr.Kd]), Pr.q_nil] at hb
  have hq : decide (t = ⟨#[]⟩) = true ↔ t = ⟨#[]⟩ := decide_eq_true_iff
  rw [<- bool_of hb _ hq]
  exact fits_empty1 _ _ _ _ _ 9 n t _ hq w
 ·rw [Pr.one_text (Q := fun cs => cs ≠ []) (N := n = Fx.stop n) (fun cs => by simp [Pr.Kd]), Pr.q_some] at hb
  have hq : decide ((t ≠ ⟨#[]⟩ /\ Pr.Snd t)) = true ↔ (t ≠ ⟨#[]⟩ /\ Pr.Snd t) := decide_eq_true_iff
  rw [<- bool_of hb _ hq]
  exact fits_named1 _ _ _ _ _ 10 n t _ hq hm w hT
 ·rw [Pr.one_text (Q := fun cs => ∃ c, cs = [c] /\ Pr.Del c) (N := n = 0) (fun cs => by simp [Pr.Kd]), Pr.q_del] at hb
  have hq : decide (Pr.DelT t) = true ↔ Pr.DelT t := decide_eq_true_iff
  rw [<- bool_of hb _ hq]
  exact fits_delimits0 _ _ _ _ _ 11 n t _ hq hm w hT
 ·rw [Pr.one_text (Q := fun cs => (cs = [40] ∨ cs = [91] ∨ cs = [123])) (N := n = 0) (fun cs => by simp [Pr.Kd]), Pr.q_opens] at hb
  have hq : decide ((t = ⟨#[40]⟩ ∨ t = ⟨#[91]⟩ ∨ t = ⟨#[123]⟩)) = true ↔ (t = ⟨#[40]⟩ ∨ t = ⟨#[91]⟩ ∨ t = ⟨#[123]⟩) := decide_eq_true_iff
  rw [<- bool_of hb _ hq]
  exact fits_opens0 _ _ _ _ _ 12 n t _ hq w
 ·rw [Pr.one_text (Q := fun cs => (cs = [41] ∨ cs = [93] ∨ cs = [125])) (N := n = 0) (fun cs => by simp [Pr.Kd]), Pr.q_closes] at hb
  have hq : decide ((t = ⟨#[41]⟩ ∨ t = ⟨#[93]⟩ ∨ t = ⟨#[125]⟩)) = true ↔ (t = ⟨#[41]⟩ ∨ t = ⟨#[93]⟩ ∨ t = ⟨#[125]⟩) := decide_eq_true_iff
  rw [<- bool_of hb _ hq]
  exact fits_closes0 _ _ _ _ _ 13 n t _ hq w
 ·rw [Pr.one_text (Q := fun cs => cs = []) (N := n = 0) (fun cs => by simp [Pr.Kd]), Pr.q_nil] at hb
  have hq : decide (t = ⟨#[]⟩) = true ↔ t = ⟨#[]⟩ := decide_eq_true_iff
  rw [<- bool_of hb _ hq]
  exact fits_empty0 _ _ _ _ _ 14 n t _ hq w
 ·rw [Pr.one_text (Q := fun cs => cs = []) (N := n = 0) (fun cs => by simp [Pr.Kd]), Pr.q_nil] at hb
  have hq : decide (t = ⟨#[]⟩) = true ↔ t = ⟨#[]⟩ := decide_eq_true_iff
  rw [<- bool_of hb _ hq]
  exact fits_empty0 _ _ _ _ _ 15 n t _ hq w
 ·rw [Pr.one_text (Q := fun cs => cs = []) (N := n = 0) (fun cs => by simp [Pr.Kd]), Pr.q_nil] at hb
  have hq : decide (t = ⟨#[]⟩) = true ↔ t = ⟨#[]⟩ := decide_eq_true_iff
  rw [<- bool_of hb _ hq]
  exact fits_empty0 _ _ _ _ _ 16 n t _ hq w
end Go.Proofs.YtkcabpjfgbghjaaGreatDoor
namespace Go.Proofs.YtkcabpjfgbghjaaGreatDoor
open Go.Lib
open Go.ChangeShapes Go.WideShapes Go.ChangeAt Go.RowKit Go.WideMaps Go.WideElems
section
variable {H : Type} {enc : TypeId × Value -> H} {P : Program}
theorem open_nums {t e : TypeId} {k : IntKind} {W : World} {base : Nat} {v : Value} {d : DataW H} {p : List MemPlace} (ht : P.underlying t = some (.slice e)) (he : P.underlying e = some (.int k)) (hc : P.cellsOf e = 1)
 (hval : Value.okWide P W .any base t v) (h : DataW.Trod enc P W 0 (fun _ => true) true t v d p) :
 ∃ (A : Option Addr) (cap : Nat) (l : List Int), v = .slice A l.length cap /\ l.length <= cap /\ Bs W W.heap.size k A l /\ (∀ x ∈ l, (Lit.int k x).wf = true) /\
   ∀ W', Below W.heap.size W W' -> ∀ sp : Nat -> Bool, (∀ x ∈ p, sp x.block = true) -> DataW.Trod enc P W' 0 sp true t v d p := by
 obtain ⟨a1, len, cap, rfl⟩ := okWide_slice ht hval
 obtain ⟨fuel, hf⟩ := h
 rcases open_ints ht he hc hf with ⟨hcs, hx⟩ | ⟨a, len', cap', zs, hcs, _, hl, hm, hz, hx, hcell, hwz⟩
 ·simp [Value.cells] at hcs
  obtain ⟨rfl, rfl, rfl⟩ := hcs
  refine ⟨none, 0, [], rfl, Nat.le_refl _, Bs.nil, (fun x hx => by cases hx), fun W' _ sp _ => ?_⟩
  simp only [Prod.mk.injEq] at hx
  obtain ⟨rfl, rfl⟩ := hx
  exact shut_slice_nil ht
 ·simp [Value.cells] at hcs
  obtain ⟨rfl, rfl, rfl⟩ := hcs
  simp only [Prod.mk.injEq] at hx
  obtain ⟨rfl, rfl⟩ := hx
  simp only [if_true] at hz
  have hlen : (zs.take len).length = len := by rw [List.length_take]; omega
  have hblk : 0 < zs.length -> a.block < W.heap.size /\ a.spot = none := fun h => by
   have h0 := hcell 0 h
   exact ⟨by simpa [Addr.add] using World.block_lt_of_cell? W _ h0, by simpa [Addr.add] using World.cell?_spot h0⟩
  refine ⟨some a, cap, zs.take len, by rw [hlen], by rw [hlen]; omega, fun hl0 => ?_, fun x hx => hwz x (List.mem_of_mem_take hx), fun W' hb sp hsp => ?_⟩
  ·obtain ⟨b, off, spot⟩ := a
   have hh := hblk (by omega)
   have hs : spot = none := hh.2
   subst hs
   refine ⟨b, off, rfl, hh.1, fun j hj => ?_⟩
   rw [hlen] at hj
   have := hcell j (by omega)
   rw [Addr.add_lit] at this
   rw [this]
   unfold Ru.g
   rw [List.getD_eq_getElem?_getD, List.getD_eq_getElem?_getD, List.getElem?_take, if_pos hj]
  ·by_cases hz0 : zs.length = 0
   ·have hc0 : cap = 0 := by omega
    have hl0 : len = 0 := by omega
    subst hc0
    subst hl0
    have t0 := shut_ints (enc := enc) (P := P) (w := W') (base := 0) (spare := sp) (held := true) (a := a) (len := 0) (cap := 0) (zs := zs) 0 ht he hc (Nat.zero_le _) (Nat.le_refl _) hm (by simp [hz0]) (fun i hi => by omega) hwz
    exact ⟨2, by simpa [Value.cells] using t0⟩
   ·have hspb : sp a.block = true := hsp (.cell a.block a.off) (MemPlace.mem_row.2 ⟨0, by omega, by simp⟩)
    have hcell' : ∀ i, i < zs.length -> W'.cell? (a.add i) = some (.int k (zs.getD i 0)) := fun i hi => by
     rw [hb.cell (by rw [block_add]; exact (hblk (by omega)).1)]
     exact hcell i hi
    have t0 := shut_ints (enc := enc) (P := P) (w := W') (base := 0) (spare := sp) (held := true) (a := a) (len := len) (cap := cap) (zs := zs) 0 ht he hc (Nat.zero_le _) hl hm (by simp [hspb, hz]) hcell' hwz
    exact ⟨2, by simpa [Value.cells] using t0⟩
theorem post_of_below {f : Func} {s : ChangeSpec} {apart fresh handsOn : Bool} {W W' : World} {args : Array Value} {v : Value} {ds gs : List (DataW H)} {before pa pv : List MemPlace}
 (hW : DataW.Whole enc P f.params.toList s.vars apart W args.toList ds gs before)
 (hres : ∀ (b : Nat) (sp : Nat -> Bool) (hd : Bool), DataW.TrodAll enc P W' b sp hd f.resultTypes.toList (v.resultList f.resultTypes.size) (s.fn H (ds ++ gs)).results [])
 (hargs : ∀ sp : Nat -> Bool, (∀ p ∈ before, sp p.block = true) -> DataW.TrodAll enc P W' 0 sp true f.params.toList args.toList (s.fn H (ds ++ gs)).args pa)
 (hvars : ∀ sp : Nat -> Bool, (∀ p ∈ before, sp p.block = true) -> DataW.TrodVars enc P W' sp s.vars (s.fn H (ds ++ gs)).vars pv)
 (hb : Below W.heap.size W W') : s.post enc P f apart fresh handsOn false W args v W' := by
 have hlt : ∀ p ∈ before, p.block < W.heap.size := fun p hp => hW.lt p hp
 have hold : ∀ p ∈ before, (fun b => decide (b < W.heap.size)) p.block = true := fun p hp => by simpa using hlt p hp
 exact ⟨ds, gs, before, [], pa, pv, hW, hres _ _ _, hargs _ hold, hvars _ hold, hb.frame _, fun h => by cases h⟩
end
theorem by_wf {l : List Int} (h : ∀ x ∈ l, (Lit.int .u8 x).wf = true) : Ru.By l := fun c hc => by
 have : 0 <= c /\ c <= 255 := by simpa [Lit.wf, IntKind.min, IntKind.max, IntKind.signed, IntKind.bits] using h c hc
 omega
end Go.Proofs.YtkcabpjfgbghjaaGreatDoor
namespace Go.Proofs.YtkcabpjfgbghjaaGreatDoor
open Go.Lib Go.Joins Go.Deep
open Go.ChangeShapes Go.WideShapes Go.ChangeAt Go.RowKit Go.WideMaps Go.WideElems
open Go.ChangeMaps (setBlock shut_map_nil open_string shut_string)
section
variable {H : Type} {enc : TypeId × Value -> H}
instance : Inhabited Tk.Tok := ⟨(0, ⟨#[]⟩, 0)⟩
end
end Go.Proofs.YtkcabpjfgbghjaaGreatDoor
namespace Go.Proofs.YtkcabpjfgbghjaaGreatDoor
open Go.Lib
open Go.ChangeShapes Go.WideShapes Go.ChangeAt Go.RowKit Go.WideMaps Go.WideElems
def tabs_ren : Go.Shelf.Ren := ⟨fun n => n, fun | 5 => 5 | 119 => 207 | 138 => 209 | 139 => 210 | n => n, fun | 3 => 1 | 4 => 2 | n => n⟩
theorem tabs_of {W : World} (h3 : VarReads Tryz.prog W "unicode/utf8.first" firstData) (h4 : VarReads Tryz.prog W "unicode/utf8.acceptRanges" acceptData) : UTab W.heap.size W :=
 UTab.of (utf8Tabs_of_readsT (P := Tryz.prog) (ρ := tabs_ren) ⟨Tryz.underlying5, Tryz.underlying207, Tryz.underlying209, Tryz.underlying210⟩
  ⟨by kernel_rfl, by kernel_rfl, by kernel_rfl, by kernel_rfl, by kernel_rfl, by kernel_rfl, by kernel_rfl⟩ h3 h4)
theorem first_is : Rows.laid_unicode_utf8_first = firstData := by kernel_rfl
theorem accept_is : Rows.laid_unicode_utf8_acceptRanges (H := Unit) = acceptData := by kernel_rfl
end Go.Proofs.YtkcabpjfgbghjaaGreatDoor
namespace Go.Proofs.YtkcabpjfgbghjaaGreatDoor
open Go.RowKit
theorem three_cells {w : World} {x y z : Value} {E : TypeId} : (w.alloc (.cells #[x, y, z] E)).cell? ⟨w.heap.size, 0, none⟩ = some x /\ (w.alloc (.cells #[x, y, z] E)).cell? ⟨w.heap.size, 1, none⟩ = some y /\ (w.alloc (.cells #[x, y, z] E)).cell? ⟨w.heap.size, 2, none⟩ = some z := by
 refine ⟨?_, ?_, ?_⟩ <;> (rw [World.cell?_alloc_mark]; rfl)
namespace Tk
theorem rd_chr {bl : List Int} (h : Ru.By bl) : ∀ c ∈ Ru.rd bl, 0 <= c /\ c <= 1114111 := fun c hc => by
 have := (Ru.rd_ok h c hc).1
 unfold Ru.Is at this
 omega
end Tk
namespace Pr
open Ru Tk
def nxK (us : List Tok) (j : Nat) : Option Int := if j < us.length then some (tk us j).1 else none
def stnB (kd : Int) (t : ByteArray) (nx : Option Int) : Bool := if kd = 1 then decide (nx ≠ some 1) else if kd = 7 then decide (nx = some 1) else if kd = 11 /\ t = ⟨#[92]⟩ then decide (nx = some 1 ∨ nx = none) else true
end Pr
def HeadK (w : World) (A : Option Addr) (m : Nat) (nx : Option Int) : Prop :=
 (m = 0 /\ nx = none) ∨ (0 < m /\ ∃ b off k1, A = some ⟨b, off, none⟩ /\ b < w.heap.size /\ w.cell? ⟨b, off, none⟩ = some (.int .i64 k1) /\ nx = some k1)
theorem HeadK.next {w w1 : World} {A : Option Addr} {m : Nat} {nx : Option Int} (h : HeadK w A m nx) (hb : Below w.heap.size w w1) : HeadK w1 A m nx := by
 rcases h with h | ⟨h0, b, off, k1, h1, h2, h3, h4⟩
 ·exact .inl h
 ·exact .inr ⟨h0, b, off, k1, h1, Nat.lt_of_lt_of_le h2 hb.size, (hb.cell (p := ⟨b, off, none⟩) h2).trans h3, h4⟩
theorem elem_tok (w : World) : (sizeOf (Tryz.prog.elem 32)).run Tryz.prog w = .ok 3 w := by kernel_rfl
theorem under_toks : Tryz.prog.underlying 32 = some (.slice (Tryz.prog.elem 32)) := by kernel_rfl
theorem tail_slice {w : World} {A : Option Addr} {us : List Tk.Tok} {cap k : Nat} (h : Ts w w.heap.size A us) (hk : k < us.length) (hc : us.length <= cap) :
 ∃ A', (∀ W, (Instr.slice 32 (.slice A us.length cap) (some (.int .i64 ((k : Int) + 1))) none none).run Tryz.prog W = .ok (.slice A' (us.length - (k + 1)) (cap - (k + 1))) W) /\ HeadK w A' (us.length - (k + 1)) (Pr.nxK us (k + 1)) := by
 obtain ⟨b, off, rfl, hb, hp⟩ := h (by omega)
 have hrun : ∀ W, (Instr.slice 32 (.slice (some ⟨b, off, none⟩) us.length cap) (some (.int .i64 ((k : Int) + 1))) none none).run Tryz.prog W = .ok (sliced (some ⟨b, off, none⟩) (k + 1) us.length cap 3) W := fun W => by
  rw [run_slice_l W 32 _ _ _ under_toks .i64 ((k : Int) + 1) (by omega) (by omega), elem_tok]
  simp only [Result.andThen_ok]
  rw [show ((k : Int) + 1).toNat = k + 1 by omega]
 by_cases hlt : k + 1 < us.length
 ·refine ⟨some ⟨b, off + (k + 1) * 3, none⟩, fun W => ?_, .inr ⟨by omega, b, off + (k + 1) * 3, (Tk.tk us (k + 1)).1, rfl, hb, (hp (k + 1) hlt).1, by unfold Pr.nxK; rw [if_pos hlt]⟩⟩
  rw [hrun W]
  unfold sliced
  rw [if_neg (by omega), Option.map_some, Addr.add_lit]
 ·refine ⟨if cap = k + 1 then some (⟨b, off, none⟩ : Addr) else Option.map (fun x : Addr => x.add ((k + 1) * 3)) (some (⟨b, off, none⟩ : Addr)), fun W => ?_, .inl ⟨by omega, by unfold Pr.nxK; rw [if_neg hlt]⟩⟩
  rw [hrun W]
  rfl
theorem stands_any (kd n : Int) (t : ByteArray) (A : Option Addr) (m c : Nat) (nx : Option Int) (w : World) (h : HeadK w A m nx) (hm : m <= 9223372036854775807) :
 Calls Tryz.prog 135 #[tokV kd t n, .slice A m c] w (Bo (Pr.stnB kd t nx) w) := by
 obtain ⟨W0, hW⟩ : ∃ W0, W0 = w.alloc (.cells #[.int .i64 kd, .string t, .int .i64 n] 61) := ⟨_, rfl⟩
 have hb0 : Below w.heap.size w W0 := by rw [hW]; exact (Below.refl _ _).alloc (Nat.le_refl _) _
 obtain ⟨q0, q1, q2⟩ := three_cells (w := w) (x := .int .i64 kd) (y := .string t) (z := .int .i64 n) (E := 61)
 rw [<- hW] at q0 q1 q2
 have HB0 := Lib.hid hb0
 have H := h.next hb0
 have key : ∀ b : Bool, Pr.stnB kd t nx = b -> Calls Tryz.prog 135 #[.agg #[.int .i64 kd, .string t, .int .i64 n], .slice A m c] w (Bo b w) := by
  intro bb hbb
  rcases H with ⟨rfl, rfl⟩ | ⟨h0, b, off, k1, rfl, _, hcell, rfl⟩
  ·skip
   by_cases g1 : kd = 1
   ·subst g1
    obtain rfl : bb = true := by rw [<- hbb]; rfl
    clear hbb h hb0 q2
    go_enter Tryz.func135, Tryz.ntmps135
    go_upto_region 1 with fail
    rw [<- hW]
    clear hW
    go_wp2_with fail
    go_ret
    exact ⟨rfl, HB0.out⟩
   ·have n1 := Ru.eq_f g1
    by_cases g7 : kd = 7
    ·subst g7
     obtain rfl : bb = false := by rw [<- hbb]; rfl
     clear hbb h hb0 q2
     go_enter Tryz.func135, Tryz.ntmps135
     go_upto_region 1 with fail
     rw [<- hW]
     clear hW
     go_wp2_with fail
     go_ret
     exact ⟨rfl, HB0.out⟩
    ·have n7 := Ru.eq_f g7
     by_cases g11 : kd = 11
     ·subst g11
      by_cases gt : t = ⟨#[92]⟩
      ·subst gt
       obtain rfl : bb = true := by rw [<- hbb]; rfl
       clear hbb h hb0 q2 g1 g7 n1 n7
       go_enter Tryz.func135, Tryz.ntmps135
       go_upto_region 1 with fail
       rw [<- hW]
       clear hW
       go_wp2_with fail
       go_ret
       exact ⟨rfl, HB0.out⟩
      ·have gt' : (t.toList == [92]) = false := by rw [str_test]; exact decide_eq_false gt
       obtain rfl : bb = true := by rw [<- hbb]; unfold Pr.stnB; simp [gt]
       clear hbb h hb0 q2 g1 g7 n1 n7 gt
       go_enter Tryz.func135, Tryz.ntmps135
       go_upto_region 1 with fail
       rw [<- hW]
       clear hW
       go_wp2_with fail
       go_ret
       exact ⟨rfl, HB0.out⟩
     ·have n11 := Ru.eq_f g11
      obtain rfl : bb = true := by rw [<- hbb]; unfold Pr.stnB; simp [g1, g7, g11]
      clear hbb h hb0 q2 g1 g7 g11
      go_enter Tryz.func135, Tryz.ntmps135
      go_upto_region 1 with fail
      rw [<- hW]
      clear hW
      go_wp2_with fail
      go_ret
      exact ⟨rfl, HB0.out⟩
  ·have hm0 := Ru.eq_f (show ¬ (m : Int) = 0 by omega)
   by_cases hk1 : k1 = 1
   ·subst hk1
    by_cases g1 : kd = 1
    ·subst g1
     obtain rfl : bb = false := by rw [<- hbb]; rfl
     clear hbb h hb0 q2
     go_enter Tryz.func135, Tryz.ntmps135
     go_upto_region 1 with fail
     rw [<- hW]
     clear hW
     go_wp2_with fail
     go_ret
     exact ⟨rfl, HB0.out⟩
    ·have n1 := Ru.eq_f g1
     by_cases g7 : kd = 7
     ·subst g7
      obtain rfl : bb = true := by rw [<- hbb]; rfl
      clear hbb h hb0 q2
      go_enter Tryz.func135, Tryz.ntmps135
      go_upto_region 1 with fail
      rw [<- hW]
      clear hW
      go_wp2_with fail
      go_ret
      exact ⟨rfl, HB0.out⟩
     ·have n7 := Ru.eq_f g7
      by_cases g11 : kd = 11
      ·subst g11
       by_cases gt : t = ⟨#[92]⟩
       ·subst gt
        obtain rfl : bb = true := by rw [<- hbb]; rfl
        clear hbb h hb0 q2 g1 g7 n1 n7
        go_enter Tryz.func135, Tryz.ntmps135
        go_upto_region 1 with fail
        rw [<- hW]
        clear hW
        go_wp2_with fail
        go_ret
        exact ⟨rfl, HB0.out⟩
       ·have gt' : (t.toList == [92]) = false := by rw [str_test]; exact decide_eq_false gt
        obtain rfl : bb = true := by rw [<- hbb]; unfold Pr.stnB; simp [gt]
        clear hbb h hb0 q2 g1 g7 n1 n7 gt
        go_enter Tryz.func135, Tryz.ntmps135
        go_upto_region 1 with fail
        rw [<- hW]
        clear hW
        go_wp2_with fail
        go_ret
        exact ⟨rfl, HB0.out⟩
      ·have n11 := Ru.eq_f g11
       obtain rfl : bb = true := by rw [<- hbb]; unfold Pr.stnB; simp [g1, g7, g11]
       clear hbb h hb0 q2 g1 g7 g11
       go_enter Tryz.func135, Tryz.ntmps135
       go_upto_region 1 with fail
       rw [<- hW]
       clear hW
       go_wp2_with fail
       go_ret
       exact ⟨rfl, HB0.out⟩
   ·have nk := Ru.eq_f hk1
    by_cases g1 : kd = 1
    ·subst g1
     obtain rfl : bb = true := by rw [<- hbb]; unfold Pr.stnB; simp [hk1]
     clear hbb h hb0 q2 hk1
     go_enter Tryz.func135, Tryz.ntmps135
     go_upto_region 1 with fail
     rw [<- hW]
     clear hW
     go_wp2_with fail
     go_ret
     exact ⟨rfl, HB0.out⟩
    ·have n1 := Ru.eq_f g1
     by_cases g7 : kd = 7
     ·subst g7
      obtain rfl : bb = false := by rw [<- hbb]; unfold Pr.stnB; simp [hk1]
      clear hbb h hb0 q2 hk1
      go_enter Tryz.func135, Tryz.ntmps135
      go_upto_region 1 with fail
      rw [<- hW]
      clear hW
      go_wp2_with fail
      go_ret
      exact ⟨rfl, HB0.out⟩
     ·have n7 := Ru.eq_f g7
      by_cases g11 : kd = 11
      ·subst g11
       by_cases gt : t = ⟨#[92]⟩
       ·subst gt
        obtain rfl : bb = false := by rw [<- hbb]; unfold Pr.stnB; simp [hk1]
        clear hbb h hb0 q2 g1 g7 n1 n7 hk1
        go_enter Tryz.func135, Tryz.ntmps135
        go_upto_region 1 with fail
        rw [<- hW]
        clear hW
        go_wp2_with fail
        go_ret
        exact ⟨rfl, HB0.out⟩
       ·have gt' : (t.toList == [92]) = false := by rw [str_test]; exact decide_eq_false gt
        obtain rfl : bb = true := by rw [<- hbb]; unfold Pr.stnB; simp [gt]
        clear hbb h hb0 q2 g1 g7 n1 n7 gt hk1
        go_enter Tryz.func135, Tryz.ntmps135
        go_upto_region 1 with fail
        rw [<- hW]
        clear hW
        go_wp2_with fail
        go_ret
        exact ⟨rfl, HB0.out⟩
      ·have n11 := Ru.eq_f g11
       obtain rfl : bb = true := by rw [<- hbb]; unfold Pr.stnB; simp [g1, g7, g11]
       clear hbb h hb0 q2 g1 g7 g11 hk1
       go_enter Tryz.func135, Tryz.ntmps135
       go_upto_region 1 with fail
       rw [<- hW]
       clear hW
       go_wp2_with fail
       go_ret
       exact ⟨rfl, HB0.out⟩
 exact key _ rfl
end Go.Proofs.YtkcabpjfgbghjaaGreatDoor
namespace Go.Proofs.YtkcabpjfgbghjaaGreatDoor
namespace Pr
open Tk
def FairB (us : List Tok) : Prop := us.length <= 16384 /\ ∀ j, j < us.length -> (tk us j).2.1.size <= 90000
end Pr
end Go.Proofs.YtkcabpjfgbghjaaGreatDoor
