/-
  Plain: how the reference tells a text's characters. No run of the program in this text.
-/
import Derived.Test.YtllmjggejbdpcaaGreatDoorGad
import Derived.Test.YtllmjggejbdpcaaGreatDoorGaa
import Derived.Test.YtllmjggejbdpcaaGreatDoorGac
import Derived.Deep.RegionWith
import Derived.Deep.DeepCutAuto
import Derived.Deep.LoopGhost
import Derived.LoopTactic
import Derived.BigQuiet
import Derived.Deep.QuietTactic
import Derived.IntWalk
set_option maxHeartbeats 16000000
set_option maxRecDepth 100000
namespace Go.Proofs.YtllmjggejbdpcaaGreatDoor
namespace Pr
open Ru Tk
open Go.Lib (encodeRuneZ)
def refN (a : Int) : Nat := if 240 <= a then 4 else if 224 <= a then 3 else if 128 <= a then 2 else 1
def refC (l : List Int) : Int :=
 if 240 <= g l 0 then (((g l 0 - 240) * 64 + g l 1 - 128) * 64 + g l 2 - 128) * 64 + g l 3 - 128
 else if 224 <= g l 0 then ((g l 0 - 224) * 64 + g l 1 - 128) * 64 + g l 2 - 128
 else if 128 <= g l 0 then (g l 0 - 192) * 64 + g l 1 - 128
 else g l 0
theorem enc_ref {d : Int} (h : Is d) (r : List Int) : refN (g (encodeRuneZ d ++ r) 0) = (encodeRuneZ d).length /\ refC (encodeRuneZ d ++ r) = d := by
 unfold Is at h
 obtain ⟨L, hL⟩ : ∃ L, L = encodeRuneZ d ++ r := ⟨_, rfl⟩
 rw [<- hL]
 by_cases c1 : d <= 127
 ·rw [Lib.encodeRuneZ_one h.1 c1] at hL ⊢
  have h0 : g L 0 = d := by rw [hL]; rfl
  unfold refN refC
  rw [h0, if_neg (by omega), if_neg (by omega), if_neg (by omega), if_neg (by omega), if_neg (by omega), if_neg (by omega)]
  exact ⟨rfl, rfl⟩
 ·by_cases c2 : d <= 2047
  ·rw [Lib.encodeRuneZ_two (by omega) c2] at hL ⊢
   have h0 : g L 0 = 192 + d / 64 := by rw [hL]; rfl
   have h1 : g L 1 = 128 + d % 64 := by rw [hL]; rfl
   unfold refN refC
   rw [h0, h1, if_neg (by omega), if_neg (by omega), if_pos (by omega), if_neg (by omega), if_neg (by omega), if_pos (by omega)]
   exact ⟨rfl, by omega⟩
  ·by_cases c3 : d <= 65535
   ·rw [Lib.encodeRuneZ_three (by omega)] at hL ⊢
    have h0 : g L 0 = 224 + d / 4096 := by rw [hL]; rfl
    have h1 : g L 1 = 128 + d / 64 % 64 := by rw [hL]; rfl
    have h2 : g L 2 = 128 + d % 64 := by rw [hL]; rfl
    unfold refN refC
    rw [h0, h1, h2, if_neg (by omega), if_pos (by omega), if_neg (by omega), if_pos (by omega)]
    exact ⟨rfl, by omega⟩
   ·rw [Lib.encodeRuneZ_four (by omega) (by omega)] at hL ⊢
    have h0 : g L 0 = 240 + d / 262144 := by rw [hL]; rfl
    have h1 : g L 1 = 128 + d / 4096 % 64 := by rw [hL]; rfl
    have h2 : g L 2 = 128 + d / 64 % 64 := by rw [hL]; rfl
    have h3 : g L 3 = 128 + d % 64 := by rw [hL]; rfl
    unfold refN refC
    rw [h0, h1, h2, h3, if_pos (by omega), if_pos (by omega)]
    exact ⟨rfl, by omega⟩
def Chars (t : ByteArray) (ds : List Int) (p : Nat) : Prop := p <= t.size /\ (bs t).take p = wr ds /\ ∀ c ∈ ds, Is c
theorem Chars.start (t : ByteArray) : Chars t [] 0 := ⟨by omega, by rw [List.take_zero]; rfl, fun c hc => by cases hc⟩
theorem Chars.bytes {t : ByteArray} {ds : List Int} {p : Nat} (h : Chars t ds p) : bs t = wr ds ++ (bs t).drop p := by rw [<- h.2.1, List.take_append_drop]
theorem Chars.next {t : ByteArray} {ds : List Int} {p n : Nat} {c : Int} (h : Chars t ds p) (hc : Is c) (hn : n = (encodeRuneZ c).length) (he : encodeRuneZ c = ((bs t).drop p).take n) : Chars t (ds ++ [c]) (p + n) := by
 have hl := congrArg List.length he
 rw [List.length_take, List.length_drop, bs_len] at hl
 refine ⟨by have := h.1; have := enc_pos c; omega, ?_, fun x hx => ?_⟩
 ·rw [List.take_add, h.2.1, wr_app, <- he]
  rw [wr_cons, wr_nil, List.append_nil]
 ·rcases List.mem_append.1 hx with hx | hx
  ·exact h.2.2 x hx
  ·rw [List.mem_singleton] at hx; subst hx; exact hc
theorem Chars.none {t : ByteArray} {ds : List Int} {p : Nat} (h : Chars t ds p) (hp : p < t.size) (hno : ∀ d r, Is d -> (bs t).drop p ≠ encodeRuneZ d ++ r) : ¬ ∃ cs, Txt t cs := by
 rintro ⟨cs, hx⟩
 have e : wr cs = wr ds ++ (bs t).drop p := hx.1.symm.trans h.bytes
 obtain ⟨cs', rfl, e2⟩ := wr_pre ds cs _ h.2.2 hx.2 e.symm
 cases cs' with
 | nil =>
   have hl := congrArg List.length e2
   rw [List.length_drop, bs_len, wr_nil] at hl
   simp at hl
   omega
 | cons d r => exact hno d (wr r) (hx.2 d (by simp)) (by rw [e2, wr_cons])
theorem Chars.done {t : ByteArray} {ds : List Int} {p : Nat} (h : Chars t ds p) (hp : ¬ p < t.size) : Txt t ds := by
 refine ⟨?_, h.2.2⟩
 have := h.bytes
 rw [List.drop_eq_nil_of_le (by rw [bs_len]; omega), List.append_nil] at this
 exact this
theorem ref_fail {L : List Int} (h : L.length < refN (g L 0) ∨ refC L < 0 ∨ isB (refC L) = false ∨ encodeRuneZ (refC L) ≠ L.take (refN (g L 0))) : ∀ d r, Is d -> L ≠ encodeRuneZ d ++ r := by
 rintro d r hd rfl
 obtain ⟨e1, e2⟩ := enc_ref hd r
 rw [e1, e2] at h
 rcases h with h | h | h | h
 ·rw [List.length_append] at h; omega
 ·have := (Is_lt hd).1; omega
 ·rw [Is_isB hd] at h; cases h
 ·exact h (by rw [List.take_left])
theorem ref_ok {L : List Int} (he : encodeRuneZ (refC L) = L.take (refN (g L 0))) (hn : refN (g L 0) <= L.length) : refN (g L 0) = (encodeRuneZ (refC L)).length := by
 rw [he, List.length_take]; omega
end Pr
end Go.Proofs.YtllmjggejbdpcaaGreatDoor
namespace Go.Proofs.YtllmjggejbdpcaaGreatDoor
open Go.RowKit
theorem ris_any (c : Int) (w : World) :
 Calls Tryz.prog 187 #[.int .i64 c] w fun e w' => e = .returned (.bool (Ru.isB c)) /\ w = w' := by
 by_cases a1 : 0 <= c <;> by_cases a2 : c <= 1114111 <;> by_cases a3 : c < 55296 <;> by_cases a4 : 57343 < c
 all_goals try omega
 all_goals
  go_enter Tryz.func187, Tryz.ntmps187
  go_wp2_with fail
  go_ret
  exact ⟨ret_bool (by unfold Ru.isB; simp; try omega), rfl⟩
theorem rbegins_any (c : Int) (w : World) :
 Calls Tryz.prog 148 #[.int .i64 c] w fun e w' => e = .returned (.bool (Ru.begB c)) /\ w = w' := by
 by_cases b1 : c = 95
 ·subst b1
  go_enter Tryz.func148, Tryz.ntmps148
  go_wp2_with fail
  go_ret
  exact ⟨rfl, rfl⟩
 ·have e1 := Ru.eq_f b1
  by_cases b2 : 128 <= c
  ·go_enter Tryz.func148, Tryz.ntmps148
   go_wp2_with (go_at_call 187; refine (ris_any _ _).mono ?_; rintro e w' ⟨rfl, rfl⟩)
   go_ret
   exact ⟨ret_bool (by unfold Ru.begB Ru.isB; rw [Bool.eq_iff_iff]; simp; omega), rfl⟩
  ·by_cases a1 : 97 <= c <;> by_cases a2 : c <= 122 <;> by_cases a3 : 65 <= c <;> by_cases a4 : c <= 90
   all_goals try omega
   all_goals
    go_enter Tryz.func148, Tryz.ntmps148
    go_wp2_with fail
    go_ret
    exact ⟨ret_bool (by unfold Ru.begB; simp; try omega), rfl⟩
def Fresh (k : IntKind) (l : List Int) (w : World) (e : Ending) (w' : World) : Prop :=
 ∃ (b cap : Nat), e = .returned (.slice (some ⟨b, 0, none⟩) l.length cap) /\ (∀ j u, (nums k l)[j]? = some u -> w'.cell? ((⟨b, 0, none⟩ : Addr).add j) = some u) /\ Below w.heap.size w w'
theorem fresh_made {w : World} {k : IntKind} {l : List Int} {E : TypeId} (v : Ending) (h : v = .returned (.slice (some ⟨w.heap.size, 0, none⟩) l.length l.length)) : Fresh k l w v (w.alloc (.cells (nums k l).toArray E)) := by
 refine ⟨w.heap.size, l.length, h, fun j u hj => ?_, (Below.refl _ _).alloc (Nat.le_refl _) _⟩
 rw [Addr.add_lit, cell_of_row _ _ _ (nums k l).toArray E (0, 0) (heap_alloc_new w _)]
 simpa using hj
theorem bytes_any (c : Int) (w : World) (h : Ru.Is c) :
 Calls Tryz.prog 188 #[.int .i64 c] w (Fresh .u8 (Lib.encodeRuneZ c) w) := by
 unfold Ru.Is at h
 by_cases h1 : c < 128
 ·have e := Lib.encodeRuneZ_one h.1 (by omega : c <= 127)
  rw [e]
  have q0 : 0 <= c := h.1
  clear e h
  go_enter Tryz.func188, Tryz.ntmps188
  go_wp2_with fail
  go_ret
  exact fresh_made _ rfl
 ·by_cases h2 : c < 2048
  ·have e := Lib.encodeRuneZ_two (by omega : 128 <= c) (by omega)
   rw [e]
   clear e h
   go_enter Tryz.func188, Tryz.ntmps188
   go_wp2_with fail
   go_ret
   exact fresh_made _ rfl
  ·by_cases h3 : c < 65536
   ·have e := Lib.encodeRuneZ_three (r := c) (by omega)
    rw [e]
    clear e h
    go_enter Tryz.func188, Tryz.ntmps188
    go_wp2_with fail
    go_ret
    exact fresh_made _ rfl
   ·have e := Lib.encodeRuneZ_four (r := c) (by omega) (by omega)
    rw [e]
    have q1 : c <= 1114111 := by omega
    clear e h
    go_enter Tryz.func188, Tryz.ntmps188
    go_wp2_with fail
    go_ret
    exact fresh_made _ rfl
def ChAt (t : ByteArray) (C : Nat) (w0 : World) (v4 v5 : Value) (wr : World) : Prop :=
 ∃ (p : Nat) (ds : List Int) (A : Option Addr), Pr.Chars t ds p /\ v5 = .slice A (t.size - p) (C - p) /\ Hid (Bs w0 w0.heap.size .u8 A ((Ru.bs t).drop p)) /\ Hid (wr.ownsRow w0.heap.size 3 1 v4 ds.length (nums .i64 ds)) /\ Hid (Below w0.heap.size w0 wr)
def Charred (t : ByteArray) (w : World) (e : Ending) (w' : World) : Prop :=
 (∃ (cs : List Int) (A : Option Addr) (cap : Nat), Pr.Txt t cs /\ e = .returned (.tuple #[.slice A cs.length cap, .bool true]) /\ cs.length <= cap /\ Bs w' w'.heap.size .i64 A cs /\ Below w.heap.size w w') ∨
 ((¬ ∃ cs, Pr.Txt t cs) /\ e = .returned (.tuple #[.slice none 0 0, .bool false]) /\ Below w.heap.size w w')
theorem under_bytes : Tryz.prog.underlying 22 = some (.slice (Tryz.prog.elem 22)) := by kernel_rfl
theorem elem_byte (w : World) : (sizeOf (Tryz.prog.elem 22)).run Tryz.prog w = .ok 1 w := by kernel_rfl
theorem upto_bytes (b off m cp n : Nat) (hn : n <= cp) (W : World) : (Instr.slice 22 (.slice (some ⟨b, off, none⟩) m cp) none (some (.int .i64 (n : Int))) none).run Tryz.prog W = .ok (.slice (some ⟨b, off, none⟩) n cp) W := by
 rw [run_slice_h W 22 _ _ _ under_bytes .i64 (n : Int) (by omega) (by omega), elem_byte]
 simp only [Result.andThen_ok, sliced, Int.toNat_natCast, Nat.zero_mul, Nat.sub_zero, Option.map_some, Addr.add_lit, Nat.add_zero]
 split <;> rfl
theorem from_bytes (A : Option Addr) (m cp n : Nat) (hn : n <= m) (W : World) : (Instr.slice 22 (.slice A m cp) (some (.int .i64 (n : Int))) none none).run Tryz.prog W = .ok (.slice (if cp = n then A else A.map (·.add n)) (m - n) (cp - n)) W := by
 rw [run_slice_l W 22 _ _ _ under_bytes .i64 (n : Int) (by omega) (by omega), elem_byte]
 simp only [Result.andThen_ok, sliced, Int.toNat_natCast, Nat.mul_one]
theorem bytes_eq {a b : List Int} (ha : Ru.By a) (hb : Ru.By b) : ((strOfNums a).toList == (strOfNums b).toList) = decide (a = b) := by
 rw [Bool.eq_iff_iff, beq_iff_eq, decide_eq_true_iff]
 constructor
 ·intro h
  have e1 := Ru.bs_str ha
  have e2 := Ru.bs_str hb
  unfold Ru.bs at e1 e2
  rw [<- Lib.toList_data] at e1 e2
  rw [<- e1, <- e2, h]
 ·rintro rfl; rfl
theorem fresh_bs {k : IntKind} {l : List Int} {b : Nat} {w' : World} (h : ∀ j u, (nums k l)[j]? = some u -> w'.cell? ((⟨b, 0, none⟩ : Addr).add j) = some u) (h0 : 0 < l.length) : Bs w' w'.heap.size k (some ⟨b, 0, none⟩) l := fun _ => by
 refine ⟨b, 0, rfl, ?_, fun j hj => ?_⟩
 ·have := h 0 _ (nums_get h0)
  exact World.block_lt_of_cell? w' _ (by rw [Addr.add_lit] at this; exact this)
 ·have := h j _ (nums_get hj)
  rw [Addr.add_lit] at this
  exact this
theorem Tryz.infoInt : (Tryz.prog.info? 3).map (fun i => (i.zero, i.size, i.bytes)) = some (some (.int .i64 0), 1, 8) := by kernel_rfl
theorem Ru.By.take {l : List Int} (h : Ru.By l) (k : Nat) : Ru.By (l.take k) := fun c hc => h c (List.mem_of_mem_take hc)
theorem Pr.enc_by (c : Int) : Ru.By (Lib.encodeRuneZ c) := fun x hx => Lib.encodeRuneZ_byte c x hx
theorem chars_any (t : ByteArray) (hm : t.size <= 90000) (w : World) :
 Calls Tryz.prog 145 #[.string t] w (Charred t w) := by
 obtain ⟨C, w0, hcv, hcell, hfz, hb0, hC⟩ := bytes_of t w
 have HS : Hid (ChAt t C w0 (.slice none 0 0) (.slice (some ⟨w.heap.size, 0, none⟩) t.size C) w0) := by
  refine Lib.hid ⟨0, [], _, Pr.Chars.start t, rfl, Lib.hid (fun hl => ?_), Lib.hid (World.ownsRow_nil _ _ _ _), Lib.hid (Below.refl _ _)⟩
  rw [List.drop_zero, Ru.bs_len] at hl
  refine ⟨w.heap.size, 0, rfl, World.block_lt_of_cell? w0 _ (hcell 0 hl), fun j hj => ?_⟩
  rw [List.drop_zero] at hj ⊢
  rw [Ru.bs_len] at hj
  rw [Nat.zero_add]
  exact hcell j hj
 obtain ⟨i0, hi, hz0, hz1, hz2⟩ := info_parts Tryz.infoInt
 have hC' := hC
 have HB0 := Lib.hid hb0
 clear hcell hfz
 go_enter Tryz.func145, Tryz.ntmps145
 go_wp2_with fail
 clear hcv
 go_loopw [4, 5] (ChAt t C w0) (fun _ v5 _ => match v5 with | .slice _ n _ => n | _ => 0)
 case atStart => exact HS
 case round =>
  obtain ⟨p, ds, A, hch, rfl, HBs0, HO, HB⟩ := hrel
  have HBs := Lib.hid (HBs0.out.next HB.out)
  have HCh := Lib.hid hch
  have hp := hch.1
  by_cases hlt : p < t.size
  ·have hL : ((Ru.bs t).drop p).length = t.size - p := by rw [List.length_drop, Ru.bs_len]
   obtain ⟨b, off, rfl, hbb, hcell⟩ := HBs.out (by omega)
   have hby := (Ru.bs_by t).drop p
   have HBY := Lib.hid hby
   have HL : Hid (∀ n, (Ru.bs t).drop (p + n) = ((Ru.bs t).drop p).drop n) := Lib.hid fun n => by rw [List.drop_drop]
   have HF : Hid (((Ru.bs t).drop p).length < Pr.refN (Ru.g ((Ru.bs t).drop p) 0) ∨ Pr.refC ((Ru.bs t).drop p) < 0 ∨ Ru.isB (Pr.refC ((Ru.bs t).drop p)) = false ∨ Lib.encodeRuneZ (Pr.refC ((Ru.bs t).drop p)) ≠ ((Ru.bs t).drop p).take (Pr.refN (Ru.g ((Ru.bs t).drop p) 0)) -> ¬ ∃ cs, Pr.Txt t cs) := Lib.hid fun h => hch.none hlt (Pr.ref_fail h)
   have HG : Hid (∀ c n, Ru.Is c -> n = (Lib.encodeRuneZ c).length -> Lib.encodeRuneZ c = ((Ru.bs t).drop p).take n -> Pr.Chars t (ds ++ [c]) (p + n)) := Lib.hid fun c n h1 h2 h3 => hch.next h1 h2 h3
   generalize (Ru.bs t).drop p = L at *
   have c0 := hcell 0 (by omega)
   rw [Nat.add_zero] at c0
   obtain ⟨a0, ha0⟩ : ∃ a0, a0 = Ru.g L 0 := ⟨_, rfl⟩
   obtain ⟨a1, ha1⟩ : ∃ a1, a1 = Ru.g L 1 := ⟨_, rfl⟩
   obtain ⟨a2, ha2⟩ : ∃ a2, a2 = Ru.g L 2 := ⟨_, rfl⟩
   obtain ⟨a3, ha3⟩ : ∃ a3, a3 = Ru.g L 3 := ⟨_, rfl⟩
   have y0 := hby.at_ 0
   have y1 := hby.at_ 1
   have y2 := hby.at_ 2
   have y3 := hby.at_ 3
   rw [<- ha0] at c0 y0
   rw [<- ha1] at y1
   rw [<- ha2] at y2
   rw [<- ha3] at y3
   have hds : ds.length <= p := by
    have h1 := Pr.wr_len_ge ds
    rw [<- hch.2.1, List.length_take, Ru.bs_len] at h1
    omega
   have HP : Hid (t.size - p = L.length /\ ∀ n, t.size - (p + n) = L.length - n /\ C - (p + n) = C - p - n) := Lib.hid ⟨hL.symm, fun n => ⟨by omega, by omega⟩⟩
   have hLc : L.length <= C - p := by omega
   have hL1 : L.length <= 90000 := by omega
   have hL0 : 0 < L.length := by omega
   rw [<- hL]
   have HA := Lib.hid (And.intro ha0 (And.intro ha1 (And.intro ha2 ha3)))
   have hds2 : ds.length <= 90000 := by omega
   have HPR := Lib.hid (And.intro hlt hp)
   generalize C - p = cp at *
   obtain ⟨m, hmm⟩ : ∃ m, m = L.length := ⟨_, rfl⟩
   rw [<- hmm] at hL0 hL1 hLc ⊢
   have HM := Lib.hid hmm
   have HC := Lib.hid (fun j hj => hcell j (by rw [<- hmm]; exact hj) : ∀ j, j < m -> wr.cell? ⟨b, off + j, none⟩ = some (.int .u8 (Ru.g L j)))
   clear ha0 ha1 ha2 ha3 hcell hlt hby hb0 HS hch hp hL hC hds hmm
   by_cases g4 : 240 <= a0
   ·skip
    have hrn : Pr.refN (Ru.g L 0) = 4 := by unfold Pr.refN; rw [<- HA.out.1, if_pos (by omega)]
    have hrc : Pr.refC L = (((a0 - 240) * 64 + a1 - 128) * 64 + a2 - 128) * 64 + a3 - 128 := by unfold Pr.refC; rw [<- HA.out.1, <- HA.out.2.1, <- HA.out.2.2.1, <- HA.out.2.2.2, if_pos (by omega)]
    rw [hrn, hrc] at HF
    have HRN := Lib.hid hrn
    have HRC := Lib.hid hrc
    clear hrn hrc
    by_cases hn : 4 <= m
    ·skip
     have c1 := HC.out 1 (by omega)
     rw [<- HA.out.2.1] at c1
     have c2 := HC.out 2 (by omega)
     rw [<- HA.out.2.2.1] at c2
     have c3 := HC.out 3 (by omega)
     rw [<- HA.out.2.2.2] at c3
     obtain ⟨c, hc⟩ : ∃ c, c = (((a0 - 240) * 64 + a1 - 128) * 64 + a2 - 128) * 64 + a3 - 128 := ⟨_, rfl⟩
     have hcb : -100000000 <= c /\ c <= 100000000 := by omega
     have hsl := fun W => upto_bytes b off m cp 4 (by omega) W
     have hsl2 := fun W => from_bytes (some ⟨b, off, none⟩) m cp 4 (by omega) W
     have hcv : ∀ W, Below wr.heap.size wr W -> (convert 22 9 (.slice (some ⟨b, off, none⟩) 4 cp)).run Tryz.prog W = .ok (.string (strOfNums (L.take 4))) W := fun W hW => by
      have h := conv_bytes cp ((HBs.out.upto 4 (by rw [<- HM.out]; omega)).below hW)
      rw [List.length_take, <- HM.out, Nat.min_eq_left (by omega)] at h
      exact h
     have HCV := Lib.hid hcv
     clear hcv
     rw [<- hc] at HF HRC
     have HFL : Hid (c < 0 ∨ Ru.isB c = false ∨ Lib.encodeRuneZ c ≠ L.take 4 -> ¬ ∃ cs, Pr.Txt t cs) := Lib.hid fun h => HF.out (.inr h)
     clear HF
     by_cases hneg : c < 0
     ·have hd : decide (c < 0) = true := decide_eq_true hneg
      have HN := Lib.hid hneg
      clear hneg
      go_wp2_with fail
      refine wp_loop_rounds 4 ?_
      repeat (rw [rounds_succ]; go_wp2_with fail)
      rw [<- hc]
      clear hc
      go_quiet (fail)
      go_wp2_with fail
      go_ret2
      exact .inr ⟨HFL.out (.inl HN.out), rfl, below_next HB0.out (below_drewN HB.out _)⟩
     ·have hd : decide (c < 0) = false := decide_eq_false hneg
      have hc0 : 0 <= c := by omega
      clear hneg
      have CI := Lib.hid (fun W => ris_any c W)
      cases his : Ru.isB c
      ·rw [his] at CI
       have HN := Lib.hid his
       clear his
       go_wp2_with fail
       refine wp_loop_rounds 4 ?_
       repeat (rw [rounds_succ]; go_wp2_with fail)
       rw [<- hc]
       clear hc
       go_quiet ((go_at_call 187; exact Calls.quiet_of_same ((CI.out _).mono fun _ _ h => ⟨h.1, h.2.symm⟩)))
       go_wp2_with fail
       go_ret2
       exact .inr ⟨HFL.out (.inr (.inl HN.out)), rfl, below_next HB0.out (below_drewN HB.out _)⟩
      ·rw [his] at CI
       have HIs := Lib.hid (Ru.isB_iff.1 his)
       have CB := Lib.hid (fun W => bytes_any c W HIs.out)
       have hel := Lib.encodeRuneZ_length c
       have hqe := bytes_eq (Pr.enc_by c) (HBY.out.take 4)
       have hcd := HCV.out wr.drew (Below.refl _ _).drew
       have hXs : (strOfNums (Lib.encodeRuneZ c)).size <= 4 := by rw [strOfNums_size]; omega
       obtain ⟨X, hX⟩ : ∃ X, X = strOfNums (Lib.encodeRuneZ c) := ⟨_, rfl⟩
       obtain ⟨Y, hY⟩ : ∃ Y, Y = strOfNums (L.take 4) := ⟨_, rfl⟩
       have HX := Lib.hid hX
       have HY := Lib.hid hY
       rw [<- hX] at hqe hXs
       rw [<- hY] at hqe hcd
       clear hX hY his
       have HQ : Hid (∃ d, (X.toList == Y.toList) = d /\ (d = true ↔ Lib.encodeRuneZ c = L.take 4)) := Lib.hid ⟨_, rfl, by rw [hqe, decide_eq_true_iff]⟩
       clear hqe
       obtain ⟨d, hqe, hdq⟩ := HQ.out
       have HDQ := Lib.hid hdq
       clear HQ hdq
       go_wp2_with fail
       refine wp_loop_rounds 4 ?_
       repeat (rw [rounds_succ]; go_wp2_with fail)
       go_upto_region 21 with fail
       rw [<- hc]
       clear hc
       go_cut [70] (fun s70 wc => s70 = .bool (!d) /\ Hid (Below wr.heap.size wr wc))
       case first =>
        clear HG HO HB HA HP HPR
        go_region_with (first | (go_at_call 187; ((with_reducible refine (CI.out _).mono ?_); rintro e w1 ⟨rfl, rfl⟩)) | (go_at_call 188; ((with_reducible refine (CB.out _).mono ?_); rintro e w2 ⟨bx, cx, rfl, hfc, b2⟩; have hcx := conv_bytes cx (fresh_bs hfc (by omega)); rw [<- HX.out] at hcx; have HB2 := Lib.hid ((Below.refl wr.heap.size wr).drew.trans b2); have hcy := HCV.out _ HB2.out; rw [<- HY.out] at hcy; clear hfc)))
        all_goals
         go_wp2_with fail
         go_meet
         exact ⟨rfl, HB2⟩
       case rest =>
        obtain ⟨rfl, HB2⟩ := hcut
        cases d
        ·have hno : ¬ (Lib.encodeRuneZ c = L.take 4) := fun h => by have := HDQ.out.2 h; cases this
         have HXY := Lib.hid hno
         clear hno HO HBs
         go_wp2_with fail
         go_ret2
         exact .inr ⟨HFL.out (.inr (.inr HXY.out)), rfl, below_next HB0.out (below_next HB.out HB2.out)⟩
        ·have HXY := Lib.hid (HDQ.out.1 rfl)
         have HO2 := Lib.hid (kept_below HO.out HB2.out (Nat.le_refl _))
         go_wp2_with (at_builtin; refine wpList_append_own _ rfl _ _ 54 rfl w0.heap.size 3 i0 (.int .i64 0) 1 8 Tryz.underlying54 hi hz0 hz1 hz2 rfl (by decide) _ _ _ rfl (HO2.out.alloc _) ⟨wc.heap.size, 0, none⟩ 1 1 [.int .i64 c] rfl rfl (one_cell wc (.int .i64 c)) (one_ok c) (by unfold maxLen; omega) (by omega) (alloc_size (Nat.le_trans HB.out.size HB2.out.size) _) ?_; intro v' w3 hown' hgrow _; have HO3 := Lib.hid (made_next HO.out HB.out HB2.out hown' hgrow); have HS3 := Lib.hid (HBs0.out.from_ (i := 4) (by rw [<- HM.out]; omega) cp (by rw [<- HM.out]; omega)); clear hown' hgrow)
         go_roundw
         case rel =>
          have hr := Pr.ref_ok (L := L) (by rw [HRC.out, HRN.out]; exact HXY.out) (by rw [HRN.out, <- HM.out]; omega)
          rw [HRC.out, HRN.out] at hr
          refine ⟨p + 4, ds ++ [c], (if cp = 4 then some ⟨b, off, none⟩ else some ⟨b, off + 4, none⟩ : Option Addr), HG.out c 4 HIs.out hr HXY.out, ?_, Lib.hid ?_, Lib.hid HO3.out.1, Lib.hid HO3.out.2⟩
          ·rw [(HP.out.2 4).1, (HP.out.2 4).2, <- HM.out]
          ·rw [HL.out]; exact HS3.out
         case measure =>
          show m - 4 < m
          omega
    ·have hnl : m < 4 := by omega
     go_wp2_with fail
     go_ret2
     exact .inr ⟨HF.out (.inl (by rw [<- HM.out]; exact hnl)), rfl, below_next HB0.out HB.out⟩
   ·by_cases g3 : 224 <= a0
    ·skip
     have hrn : Pr.refN (Ru.g L 0) = 3 := by unfold Pr.refN; rw [<- HA.out.1, if_neg (by omega), if_pos (by omega)]
     have hrc : Pr.refC L = ((a0 - 224) * 64 + a1 - 128) * 64 + a2 - 128 := by unfold Pr.refC; rw [<- HA.out.1, <- HA.out.2.1, <- HA.out.2.2.1, <- HA.out.2.2.2, if_neg (by omega), if_pos (by omega)]
     rw [hrn, hrc] at HF
     have HRN := Lib.hid hrn
     have HRC := Lib.hid hrc
     clear hrn hrc
     by_cases hn : 3 <= m
     ·skip
      have c1 := HC.out 1 (by omega)
      rw [<- HA.out.2.1] at c1
      have c2 := HC.out 2 (by omega)
      rw [<- HA.out.2.2.1] at c2
      obtain ⟨c, hc⟩ : ∃ c, c = ((a0 - 224) * 64 + a1 - 128) * 64 + a2 - 128 := ⟨_, rfl⟩
      have hcb : -100000000 <= c /\ c <= 100000000 := by omega
      have hsl := fun W => upto_bytes b off m cp 3 (by omega) W
      have hsl2 := fun W => from_bytes (some ⟨b, off, none⟩) m cp 3 (by omega) W
      have hcv : ∀ W, Below wr.heap.size wr W -> (convert 22 9 (.slice (some ⟨b, off, none⟩) 3 cp)).run Tryz.prog W = .ok (.string (strOfNums (L.take 3))) W := fun W hW => by
       have h := conv_bytes cp ((HBs.out.upto 3 (by rw [<- HM.out]; omega)).below hW)
       rw [List.length_take, <- HM.out, Nat.min_eq_left (by omega)] at h
       exact h
      have HCV := Lib.hid hcv
      clear hcv
      rw [<- hc] at HF HRC
      have HFL : Hid (c < 0 ∨ Ru.isB c = false ∨ Lib.encodeRuneZ c ≠ L.take 3 -> ¬ ∃ cs, Pr.Txt t cs) := Lib.hid fun h => HF.out (.inr h)
      clear HF
      by_cases hneg : c < 0
      ·have hd : decide (c < 0) = true := decide_eq_true hneg
       have HN := Lib.hid hneg
       clear hneg
       go_wp2_with fail
       refine wp_loop_rounds 3 ?_
       repeat (rw [rounds_succ]; go_wp2_with fail)
       rw [<- hc]
       clear hc
       go_quiet (fail)
       go_wp2_with fail
       go_ret2
       exact .inr ⟨HFL.out (.inl HN.out), rfl, below_next HB0.out (below_drewN HB.out _)⟩
      ·have hd : decide (c < 0) = false := decide_eq_false hneg
       have hc0 : 0 <= c := by omega
       clear hneg
       have CI := Lib.hid (fun W => ris_any c W)
       cases his : Ru.isB c
       ·rw [his] at CI
        have HN := Lib.hid his
        clear his
        go_wp2_with fail
        refine wp_loop_rounds 3 ?_
        repeat (rw [rounds_succ]; go_wp2_with fail)
        rw [<- hc]
        clear hc
        go_quiet ((go_at_call 187; exact Calls.quiet_of_same ((CI.out _).mono fun _ _ h => ⟨h.1, h.2.symm⟩)))
        go_wp2_with fail
        go_ret2
        exact .inr ⟨HFL.out (.inr (.inl HN.out)), rfl, below_next HB0.out (below_drewN HB.out _)⟩
       ·rw [his] at CI
        have HIs := Lib.hid (Ru.isB_iff.1 his)
        have CB := Lib.hid (fun W => bytes_any c W HIs.out)
        have hel := Lib.encodeRuneZ_length c
        have hqe := bytes_eq (Pr.enc_by c) (HBY.out.take 3)
        have hcd := HCV.out wr.drew (Below.refl _ _).drew
        have hXs : (strOfNums (Lib.encodeRuneZ c)).size <= 4 := by rw [strOfNums_size]; omega
        obtain ⟨X, hX⟩ : ∃ X, X = strOfNums (Lib.encodeRuneZ c) := ⟨_, rfl⟩
        obtain ⟨Y, hY⟩ : ∃ Y, Y = strOfNums (L.take 3) := ⟨_, rfl⟩
        have HX := Lib.hid hX
        have HY := Lib.hid hY
        rw [<- hX] at hqe hXs
        rw [<- hY] at hqe hcd
        clear hX hY his
        have HQ : Hid (∃ d, (X.toList == Y.toList) = d /\ (d = true ↔ Lib.encodeRuneZ c = L.take 3)) := Lib.hid ⟨_, rfl, by rw [hqe, decide_eq_true_iff]⟩
        clear hqe
        obtain ⟨d, hqe, hdq⟩ := HQ.out
        have HDQ := Lib.hid hdq
        clear HQ hdq
        go_wp2_with fail
        refine wp_loop_rounds 3 ?_
        repeat (rw [rounds_succ]; go_wp2_with fail)
        go_upto_region 21 with fail
        rw [<- hc]
        clear hc
        go_cut [70] (fun s70 wc => s70 = .bool (!d) /\ Hid (Below wr.heap.size wr wc))
        case first =>
         clear HG HO HB HA HP HPR
         go_region_with (first | (go_at_call 187; ((with_reducible refine (CI.out _).mono ?_); rintro e w1 ⟨rfl, rfl⟩)) | (go_at_call 188; ((with_reducible refine (CB.out _).mono ?_); rintro e w2 ⟨bx, cx, rfl, hfc, b2⟩; have hcx := conv_bytes cx (fresh_bs hfc (by omega)); rw [<- HX.out] at hcx; have HB2 := Lib.hid ((Below.refl wr.heap.size wr).drew.trans b2); have hcy := HCV.out _ HB2.out; rw [<- HY.out] at hcy; clear hfc)))
         all_goals
          go_wp2_with fail
          go_meet
          exact ⟨rfl, HB2⟩
        case rest =>
         obtain ⟨rfl, HB2⟩ := hcut
         cases d
         ·have hno : ¬ (Lib.encodeRuneZ c = L.take 3) := fun h => by have := HDQ.out.2 h; cases this
          have HXY := Lib.hid hno
          clear hno HO HBs
          go_wp2_with fail
          go_ret2
          exact .inr ⟨HFL.out (.inr (.inr HXY.out)), rfl, below_next HB0.out (below_next HB.out HB2.out)⟩
         ·have HXY := Lib.hid (HDQ.out.1 rfl)
          have HO2 := Lib.hid (kept_below HO.out HB2.out (Nat.le_refl _))
          go_wp2_with (at_builtin; refine wpList_append_own _ rfl _ _ 54 rfl w0.heap.size 3 i0 (.int .i64 0) 1 8 Tryz.underlying54 hi hz0 hz1 hz2 rfl (by decide) _ _ _ rfl (HO2.out.alloc _) ⟨wc.heap.size, 0, none⟩ 1 1 [.int .i64 c] rfl rfl (one_cell wc (.int .i64 c)) (one_ok c) (by unfold maxLen; omega) (by omega) (alloc_size (Nat.le_trans HB.out.size HB2.out.size) _) ?_; intro v' w3 hown' hgrow _; have HO3 := Lib.hid (made_next HO.out HB.out HB2.out hown' hgrow); have HS3 := Lib.hid (HBs0.out.from_ (i := 3) (by rw [<- HM.out]; omega) cp (by rw [<- HM.out]; omega)); clear hown' hgrow)
          go_roundw
          case rel =>
           have hr := Pr.ref_ok (L := L) (by rw [HRC.out, HRN.out]; exact HXY.out) (by rw [HRN.out, <- HM.out]; omega)
           rw [HRC.out, HRN.out] at hr
           refine ⟨p + 3, ds ++ [c], (if cp = 3 then some ⟨b, off, none⟩ else some ⟨b, off + 3, none⟩ : Option Addr), HG.out c 3 HIs.out hr HXY.out, ?_, Lib.hid ?_, Lib.hid HO3.out.1, Lib.hid HO3.out.2⟩
           ·rw [(HP.out.2 3).1, (HP.out.2 3).2, <- HM.out]
           ·rw [HL.out]; exact HS3.out
          case measure =>
           show m - 3 < m
           omega
     ·have hnl : m < 3 := by omega
      go_wp2_with fail
      go_ret2
      exact .inr ⟨HF.out (.inl (by rw [<- HM.out]; exact hnl)), rfl, below_next HB0.out HB.out⟩
    ·by_cases g2 : 128 <= a0
     ·skip
      have hrn : Pr.refN (Ru.g L 0) = 2 := by unfold Pr.refN; rw [<- HA.out.1, if_neg (by omega), if_neg (by omega), if_pos (by omega)]
      have hrc : Pr.refC L = (a0 - 192) * 64 + a1 - 128 := by unfold Pr.refC; rw [<- HA.out.1, <- HA.out.2.1, <- HA.out.2.2.1, <- HA.out.2.2.2, if_neg (by omega), if_neg (by omega), if_pos (by omega)]
      rw [hrn, hrc] at HF
      have HRN := Lib.hid hrn
      have HRC := Lib.hid hrc
      clear hrn hrc
      by_cases hn : 2 <= m
      ·skip
       have c1 := HC.out 1 (by omega)
       rw [<- HA.out.2.1] at c1
       obtain ⟨c, hc⟩ : ∃ c, c = (a0 - 192) * 64 + a1 - 128 := ⟨_, rfl⟩
       have hcb : -100000000 <= c /\ c <= 100000000 := by omega
       have hsl := fun W => upto_bytes b off m cp 2 (by omega) W
       have hsl2 := fun W => from_bytes (some ⟨b, off, none⟩) m cp 2 (by omega) W
       have hcv : ∀ W, Below wr.heap.size wr W -> (convert 22 9 (.slice (some ⟨b, off, none⟩) 2 cp)).run Tryz.prog W = .ok (.string (strOfNums (L.take 2))) W := fun W hW => by
        have h := conv_bytes cp ((HBs.out.upto 2 (by rw [<- HM.out]; omega)).below hW)
        rw [List.length_take, <- HM.out, Nat.min_eq_left (by omega)] at h
        exact h
       have HCV := Lib.hid hcv
       clear hcv
       rw [<- hc] at HF HRC
       have HFL : Hid (c < 0 ∨ Ru.isB c = false ∨ Lib.encodeRuneZ c ≠ L.take 2 -> ¬ ∃ cs, Pr.Txt t cs) := Lib.hid fun h => HF.out (.inr h)
       clear HF
       by_cases hneg : c < 0
       ·have hd : decide (c < 0) = true := decide_eq_true hneg
        have HN := Lib.hid hneg
        clear hneg
        go_wp2_with fail
        refine wp_loop_rounds 2 ?_
        repeat (rw [rounds_succ]; go_wp2_with fail)
        rw [<- hc]
        clear hc
        go_quiet (fail)
        go_wp2_with fail
        go_ret2
        exact .inr ⟨HFL.out (.inl HN.out), rfl, below_next HB0.out (below_drewN HB.out _)⟩
       ·have hd : decide (c < 0) = false := decide_eq_false hneg
        have hc0 : 0 <= c := by omega
        clear hneg
        have CI := Lib.hid (fun W => ris_any c W)
        cases his : Ru.isB c
        ·rw [his] at CI
         have HN := Lib.hid his
         clear his
         go_wp2_with fail
         refine wp_loop_rounds 2 ?_
         repeat (rw [rounds_succ]; go_wp2_with fail)
         rw [<- hc]
         clear hc
         go_quiet ((go_at_call 187; exact Calls.quiet_of_same ((CI.out _).mono fun _ _ h => ⟨h.1, h.2.symm⟩)))
         go_wp2_with fail
         go_ret2
         exact .inr ⟨HFL.out (.inr (.inl HN.out)), rfl, below_next HB0.out (below_drewN HB.out _)⟩
        ·rw [his] at CI
         have HIs := Lib.hid (Ru.isB_iff.1 his)
         have CB := Lib.hid (fun W => bytes_any c W HIs.out)
         have hel := Lib.encodeRuneZ_length c
         have hqe := bytes_eq (Pr.enc_by c) (HBY.out.take 2)
         have hcd := HCV.out wr.drew (Below.refl _ _).drew
         have hXs : (strOfNums (Lib.encodeRuneZ c)).size <= 4 := by rw [strOfNums_size]; omega
         obtain ⟨X, hX⟩ : ∃ X, X = strOfNums (Lib.encodeRuneZ c) := ⟨_, rfl⟩
         obtain ⟨Y, hY⟩ : ∃ Y, Y = strOfNums (L.take 2) := ⟨_, rfl⟩
         have HX := Lib.hid hX
         have HY := Lib.hid hY
         rw [<- hX] at hqe hXs
         rw [<- hY] at hqe hcd
         clear hX hY his
         have HQ : Hid (∃ d, (X.toList == Y.toList) = d /\ (d = true ↔ Lib.encodeRuneZ c = L.take 2)) := Lib.hid ⟨_, rfl, by rw [hqe, decide_eq_true_iff]⟩
         clear hqe
         obtain ⟨d, hqe, hdq⟩ := HQ.out
         have HDQ := Lib.hid hdq
         clear HQ hdq
         go_wp2_with fail
         refine wp_loop_rounds 2 ?_
         repeat (rw [rounds_succ]; go_wp2_with fail)
         go_upto_region 21 with fail
         rw [<- hc]
         clear hc
         go_cut [70] (fun s70 wc => s70 = .bool (!d) /\ Hid (Below wr.heap.size wr wc))
         case first =>
          clear HG HO HB HA HP HPR
          go_region_with (first | (go_at_call 187; ((with_reducible refine (CI.out _).mono ?_); rintro e w1 ⟨rfl, rfl⟩)) | (go_at_call 188; ((with_reducible refine (CB.out _).mono ?_); rintro e w2 ⟨bx, cx, rfl, hfc, b2⟩; have hcx := conv_bytes cx (fresh_bs hfc (by omega)); rw [<- HX.out] at hcx; have HB2 := Lib.hid ((Below.refl wr.heap.size wr).drew.trans b2); have hcy := HCV.out _ HB2.out; rw [<- HY.out] at hcy; clear hfc)))
          all_goals
           go_wp2_with fail
           go_meet
           exact ⟨rfl, HB2⟩
         case rest =>
          obtain ⟨rfl, HB2⟩ := hcut
          cases d
          ·have hno : ¬ (Lib.encodeRuneZ c = L.take 2) := fun h => by have := HDQ.out.2 h; cases this
           have HXY := Lib.hid hno
           clear hno HO HBs
           go_wp2_with fail
           go_ret2
           exact .inr ⟨HFL.out (.inr (.inr HXY.out)), rfl, below_next HB0.out (below_next HB.out HB2.out)⟩
          ·have HXY := Lib.hid (HDQ.out.1 rfl)
           have HO2 := Lib.hid (kept_below HO.out HB2.out (Nat.le_refl _))
           go_wp2_with (at_builtin; refine wpList_append_own _ rfl _ _ 54 rfl w0.heap.size 3 i0 (.int .i64 0) 1 8 Tryz.underlying54 hi hz0 hz1 hz2 rfl (by decide) _ _ _ rfl (HO2.out.alloc _) ⟨wc.heap.size, 0, none⟩ 1 1 [.int .i64 c] rfl rfl (one_cell wc (.int .i64 c)) (one_ok c) (by unfold maxLen; omega) (by omega) (alloc_size (Nat.le_trans HB.out.size HB2.out.size) _) ?_; intro v' w3 hown' hgrow _; have HO3 := Lib.hid (made_next HO.out HB.out HB2.out hown' hgrow); have HS3 := Lib.hid (HBs0.out.from_ (i := 2) (by rw [<- HM.out]; omega) cp (by rw [<- HM.out]; omega)); clear hown' hgrow)
           go_roundw
           case rel =>
            have hr := Pr.ref_ok (L := L) (by rw [HRC.out, HRN.out]; exact HXY.out) (by rw [HRN.out, <- HM.out]; omega)
            rw [HRC.out, HRN.out] at hr
            refine ⟨p + 2, ds ++ [c], (if cp = 2 then some ⟨b, off, none⟩ else some ⟨b, off + 2, none⟩ : Option Addr), HG.out c 2 HIs.out hr HXY.out, ?_, Lib.hid ?_, Lib.hid HO3.out.1, Lib.hid HO3.out.2⟩
            ·rw [(HP.out.2 2).1, (HP.out.2 2).2, <- HM.out]
            ·rw [HL.out]; exact HS3.out
           case measure =>
            show m - 2 < m
            omega
      ·have hnl : m < 2 := by omega
       go_wp2_with fail
       go_ret2
       exact .inr ⟨HF.out (.inl (by rw [<- HM.out]; exact hnl)), rfl, below_next HB0.out HB.out⟩
     ·skip
      have hrn : Pr.refN (Ru.g L 0) = 1 := by unfold Pr.refN; rw [<- HA.out.1, if_neg (by omega), if_neg (by omega), if_neg (by omega)]
      have hrc : Pr.refC L = a0 := by unfold Pr.refC; rw [<- HA.out.1, <- HA.out.2.1, <- HA.out.2.2.1, <- HA.out.2.2.2, if_neg (by omega), if_neg (by omega), if_neg (by omega)]
      rw [hrn, hrc] at HF
      have HRN := Lib.hid hrn
      have HRC := Lib.hid hrc
      clear hrn hrc
      have hn : 1 <= m := by omega
      obtain ⟨c, hc⟩ : ∃ c, c = a0 := ⟨_, rfl⟩
      have hcb : -100000000 <= c /\ c <= 100000000 := by omega
      have hsl := fun W => upto_bytes b off m cp 1 (by omega) W
      have hsl2 := fun W => from_bytes (some ⟨b, off, none⟩) m cp 1 (by omega) W
      have hcv : ∀ W, Below wr.heap.size wr W -> (convert 22 9 (.slice (some ⟨b, off, none⟩) 1 cp)).run Tryz.prog W = .ok (.string (strOfNums (L.take 1))) W := fun W hW => by
       have h := conv_bytes cp ((HBs.out.upto 1 (by rw [<- HM.out]; omega)).below hW)
       rw [List.length_take, <- HM.out, Nat.min_eq_left (by omega)] at h
       exact h
      have HCV := Lib.hid hcv
      clear hcv
      rw [<- hc] at HF HRC
      have HFL : Hid (c < 0 ∨ Ru.isB c = false ∨ Lib.encodeRuneZ c ≠ L.take 1 -> ¬ ∃ cs, Pr.Txt t cs) := Lib.hid fun h => HF.out (.inr h)
      clear HF
      have hd : decide (c < 0) = false := decide_eq_false (by omega)
      have hc0 : 0 <= c := by omega
      have CI := Lib.hid (fun W => ris_any c W)
      cases his : Ru.isB c
      ·rw [his] at CI
       have HN := Lib.hid his
       clear his
       go_wp2_with fail
       refine wp_loop_rounds 1 ?_
       repeat (rw [rounds_succ]; go_wp2_with fail)
       rw [<- hc]
       clear hc
       go_quiet ((go_at_call 187; exact Calls.quiet_of_same ((CI.out _).mono fun _ _ h => ⟨h.1, h.2.symm⟩)))
       go_wp2_with fail
       go_ret2
       exact .inr ⟨HFL.out (.inr (.inl HN.out)), rfl, below_next HB0.out (below_drewN HB.out _)⟩
      ·rw [his] at CI
       have HIs := Lib.hid (Ru.isB_iff.1 his)
       have CB := Lib.hid (fun W => bytes_any c W HIs.out)
       have hel := Lib.encodeRuneZ_length c
       have hqe := bytes_eq (Pr.enc_by c) (HBY.out.take 1)
       have hcd := HCV.out wr.drew (Below.refl _ _).drew
       have hXs : (strOfNums (Lib.encodeRuneZ c)).size <= 4 := by rw [strOfNums_size]; omega
       obtain ⟨X, hX⟩ : ∃ X, X = strOfNums (Lib.encodeRuneZ c) := ⟨_, rfl⟩
       obtain ⟨Y, hY⟩ : ∃ Y, Y = strOfNums (L.take 1) := ⟨_, rfl⟩
       have HX := Lib.hid hX
       have HY := Lib.hid hY
       rw [<- hX] at hqe hXs
       rw [<- hY] at hqe hcd
       clear hX hY his
       have HQ : Hid (∃ d, (X.toList == Y.toList) = d /\ (d = true ↔ Lib.encodeRuneZ c = L.take 1)) := Lib.hid ⟨_, rfl, by rw [hqe, decide_eq_true_iff]⟩
       clear hqe
       obtain ⟨d, hqe, hdq⟩ := HQ.out
       have HDQ := Lib.hid hdq
       clear HQ hdq
       go_wp2_with fail
       refine wp_loop_rounds 1 ?_
       repeat (rw [rounds_succ]; go_wp2_with fail)
       go_upto_region 21 with fail
       rw [<- hc]
       clear hc
       go_cut [70] (fun s70 wc => s70 = .bool (!d) /\ Hid (Below wr.heap.size wr wc))
       case first =>
        clear HG HO HB HA HP HPR
        go_region_with (first | (go_at_call 187; ((with_reducible refine (CI.out _).mono ?_); rintro e w1 ⟨rfl, rfl⟩)) | (go_at_call 188; ((with_reducible refine (CB.out _).mono ?_); rintro e w2 ⟨bx, cx, rfl, hfc, b2⟩; have hcx := conv_bytes cx (fresh_bs hfc (by omega)); rw [<- HX.out] at hcx; have HB2 := Lib.hid ((Below.refl wr.heap.size wr).drew.trans b2); have hcy := HCV.out _ HB2.out; rw [<- HY.out] at hcy; clear hfc)))
        all_goals
         go_wp2_with fail
         go_meet
         exact ⟨rfl, HB2⟩
       case rest =>
        obtain ⟨rfl, HB2⟩ := hcut
        cases d
        ·have hno : ¬ (Lib.encodeRuneZ c = L.take 1) := fun h => by have := HDQ.out.2 h; cases this
         have HXY := Lib.hid hno
         clear hno HO HBs
         go_wp2_with fail
         go_ret2
         exact .inr ⟨HFL.out (.inr (.inr HXY.out)), rfl, below_next HB0.out (below_next HB.out HB2.out)⟩
        ·have HXY := Lib.hid (HDQ.out.1 rfl)
         have HO2 := Lib.hid (kept_below HO.out HB2.out (Nat.le_refl _))
         go_wp2_with (at_builtin; refine wpList_append_own _ rfl _ _ 54 rfl w0.heap.size 3 i0 (.int .i64 0) 1 8 Tryz.underlying54 hi hz0 hz1 hz2 rfl (by decide) _ _ _ rfl (HO2.out.alloc _) ⟨wc.heap.size, 0, none⟩ 1 1 [.int .i64 c] rfl rfl (one_cell wc (.int .i64 c)) (one_ok c) (by unfold maxLen; omega) (by omega) (alloc_size (Nat.le_trans HB.out.size HB2.out.size) _) ?_; intro v' w3 hown' hgrow _; have HO3 := Lib.hid (made_next HO.out HB.out HB2.out hown' hgrow); have HS3 := Lib.hid (HBs0.out.from_ (i := 1) (by rw [<- HM.out]; omega) cp (by rw [<- HM.out]; omega)); clear hown' hgrow)
         go_roundw
         case rel =>
          have hr := Pr.ref_ok (L := L) (by rw [HRC.out, HRN.out]; exact HXY.out) (by rw [HRN.out, <- HM.out]; omega)
          rw [HRC.out, HRN.out] at hr
          refine ⟨p + 1, ds ++ [c], (if cp = 1 then some ⟨b, off, none⟩ else some ⟨b, off + 1, none⟩ : Option Addr), HG.out c 1 HIs.out hr HXY.out, ?_, Lib.hid ?_, Lib.hid HO3.out.1, Lib.hid HO3.out.2⟩
          ·rw [(HP.out.2 1).1, (HP.out.2 1).2, <- HM.out]
          ·rw [HL.out]; exact HS3.out
         case measure =>
          show m - 1 < m
          omega
  ·have hpe : t.size - p = 0 := by omega
   have HD := Lib.hid (hch.done hlt)
   rw [hpe]
   clear hch HBs HBs0
   obtain ⟨A1, cap1, rfl, hc1, hB1⟩ := own_form HO.out
   go_wp2_with fail
   go_ret2
   exact .inl ⟨ds, A1, cap1, HD.out, rfl, hc1, hB1, below_next HB0.out HB.out⟩
theorem conv_back1 {W : World} {b : Nat} {x : Int} (h : W.cell? ⟨b, 0, none⟩ = some (.int .u8 x)) : (convert 22 9 (.slice (some ⟨b, 0, none⟩) 1 1)).run Tryz.prog W = .ok (.string (strOfNums [x])) W :=
 conv_bytes (w := W) (B := b + 1) (l := [x]) 1 (fun _ => ⟨b, 0, rfl, by omega, fun j hj => by
  rw [show j = 0 by simp at hj; omega]
  exact h⟩)
theorem lit_bs (w : World) (l : List Int) (E : TypeId) : Bs (w.alloc (.cells (nums .i64 l).toArray E)) (w.heap.size + 1) .i64 (some ⟨w.heap.size, 0, none⟩) l := fun _ => by
 refine ⟨w.heap.size, 0, rfl, by omega, fun j hj => ?_⟩
 have h := nums_get (k := .i64) hj
 rw [cell_of_row _ _ _ (nums .i64 l).toArray E (0, 0) (heap_alloc_new w _)]
 simpa using h
theorem str_size (l : List Int) : (Tk.str l).size = (Ru.wr l).length := by rw [<- Ru.bs_len, Pr.str_bs]
theorem g_in {l : List Int} {c : Int} : c ∈ l ↔ ∃ j, j < l.length /\ Ru.g l j = c := by
 rw [List.mem_iff_getElem]
 constructor
 ·rintro ⟨j, hj, e⟩; exact ⟨j, hj, by rw [Ru.g_eq hj]; exact e⟩
 ·rintro ⟨j, hj, e⟩; exact ⟨j, hj, by rw [<- Ru.g_eq hj]; exact e⟩
theorem in_any (l : List Int) (c : Int) (A : Option Addr) (cap B : Nat) (w : World) (h : Bs w B .i64 A l) (hl : l.length <= 100000) (b : Bool) (hb : b = true ↔ c ∈ l) :
 Calls Tryz.prog 146 #[.slice A l.length cap, .int .i64 c] w fun e w' => e = .returned (.bool b) /\ w = w' := by
 have H := Lib.hid h
 have HB := Lib.hid (hb.trans g_in)
 clear h hb
 go_enter Tryz.func146, Tryz.ntmps146
 go_wp2_with fail
 go_loopw [5] (fun v5 wr => ∃ k : Nat, k <= l.length /\ v5 = .int .i64 k /\ Hid (∀ j, j < k -> Ru.g l j ≠ c) /\ wr = w) (fun v5 _ => l.length - (RowKit.intOf v5).toNat)
 case atStart => exact ⟨0, Nat.zero_le _, rfl, Lib.hid (fun j hj => by omega), rfl⟩
 case round =>
  obtain ⟨k, hk, rfl, HK, rfl⟩ := hrel
  by_cases hlt : k < l.length
  ·obtain ⟨bb, off, rfl, _, hp⟩ := H.out (by omega)
   have hc := hp k hlt
   clear hp
   by_cases he : Ru.g l k = c
   ·have HE := Lib.hid (HB.out.2 ⟨k, hlt, he⟩)
    have he' : (Ru.g l k == c) = true := by rw [he]; exact beq_self_eq_true c
    go_wp2_with fail
    go_ret
    exact ⟨by rw [HE.out]; rfl, rfl⟩
   ·have he' : (Ru.g l k == c) = false := by rw [beq_eq_false_iff_ne]; exact he
    have HE := Lib.hid he
    clear he
    go_wp2_with fail
    go_roundw
    case rel =>
     refine ⟨k + 1, hlt, rfl, Lib.hid (fun j hj => ?_), trivial⟩
     by_cases e : j = k
     ·subst e; exact HE.out
     ·exact HK.out j (by omega)
    case measure => show l.length - (k + 1) < l.length - k; omega
  ·have HN : b = false := by
    cases b with
    | false => rfl
    | true =>
      obtain ⟨j, hj, e⟩ := HB.out.1 rfl
      exact absurd e (HK.out j (by omega))
   subst HN
   go_wp2_with fail
   go_ret
   exact ⟨rfl, rfl⟩
theorem rstop_any (n : Int) (w : World) :
 Calls Tryz.prog 147 #[.int .i64 n] w fun e w' => e = .returned (.int .i64 (Fx.stop n)) /\ w = w' := by
 go_enter Tryz.func147, Tryz.ntmps147
 go_wp2
 all_goals (go_ret; exact ⟨ret_int (by unfold Fx.stop; omega), rfl⟩)
end Go.Proofs.YtllmjggejbdpcaaGreatDoor
