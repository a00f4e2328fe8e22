/-
  The walk of the law's awake.
-/
import Derived.Test.YtgcmjkimiakibaaDoorGas
import Derived.Test.YtgcmjkimiakibaaDoorGaf
import Derived.Test.YtgcmjkimiakibaaDoorGab
import Derived.Test.YtgcmjkimiakibaaDoorGac
namespace Go.Proofs.YtgcmjkimiakibaaDoor
open Go.RowKit

namespace Pr
open Ru Tk
def ps0 : List PT := [(2, [49, 97], 0), (2, [98], 0)]
def us0 : List Tok := [(2, ⟨#[49, 97]⟩, 0), (2, ⟨#[98]⟩, 0)]
def p1 : PT := (10, [101, 49], 1500)
theorem us0_eq : ps0.map toTok = us0 := rfl
theorem ok_small {l : List Int} (h : ∀ c ∈ l, 0 < c ∧ c < 128) : Ok l := fun c hc => by
  have := h c hc
  exact ⟨by unfold Is; omega, by omega⟩
theorem ps0_right : Right ps0 := by
  refine ⟨⟨ok_small (by simp), ?_⟩, ?_, ⟨ok_small (by simp), ?_⟩, ?_, trivial⟩
  · unfold Kd; simp
  · unfold Stn; simp
  · unfold Kd; simp
  · unfold Stn; simp
theorem p1_one : One p1 := ⟨ok_small (by simp [p1]), by unfold Kd p1; simp; decide⟩
theorem us0_right : RightU us0 := (rightU_iff us0).2 ⟨by decide, ps0, rfl, ps0_right⟩
theorem us0_fair : Fair us0 := by
  refine ⟨by decide, fun j hj => ?_⟩
  have : j = 0 ∨ j = 1 := by simp [us0] at hj; omega
  rcases this with rfl | rfl <;> decide
theorem us0_wf : Wf us0 := by
  intro j hj
  have : j = 0 ∨ j = 1 := by simp [us0] at hj; omega
  rcases this with rfl | rfl <;> exact ⟨by unfold I64; decide, by unfold I64; decide⟩
theorem text0 : str (prL none ps0) = ⟨#[92, 51, 49, 32, 97, 47, 42, 42, 47, 98]⟩ := by decide +kernel
theorem text1 : str (tokC p1) = ⟨#[49, 46, 53, 92, 54, 53, 32, 49]⟩ := by decide +kernel
end Pr
theorem us0_ts (w : World) (E : TypeId) : Ts (w.alloc (.cells #[.int .i64 2, .string ⟨#[49, 97]⟩, .int .i64 0, .int .i64 2, .string ⟨#[98]⟩, .int .i64 0] E)) (w.alloc (.cells #[.int .i64 2, .string ⟨#[49, 97]⟩, .int .i64 0, .int .i64 2, .string ⟨#[98]⟩, .int .i64 0] E)).heap.size (some ⟨w.heap.size, 0, none⟩) Pr.us0 := fun _ => by
  refine ⟨w.heap.size, 0, rfl, by simp, fun j hj => ?_⟩
  have : j = 0 ∨ j = 1 := by simp [Pr.us0] at hj; omega
  rcases this with rfl | rfl
  · refine ⟨?_, ?_, ?_⟩ <;> (rw [World.cell?_alloc_mark]; rfl)
  · refine ⟨?_, ?_, ?_⟩ <;> (rw [World.cell?_alloc_mark]; rfl)
set_option maxHeartbeats 4000000 in
set_option maxRecDepth 100000 in
theorem awake_any (w : World) (hT : PTab w.heap.size w) : Calls Tryd.prog 7 #[] w (Bo true w) := by
  obtain ⟨W0, hW⟩ : ∃ W0, W0 = w.alloc (.cells #[.int .i64 2, .string ⟨#[49, 97]⟩, .int .i64 0, .int .i64 2, .string ⟨#[98]⟩, .int .i64 0] 26) := ⟨_, rfl⟩
  have hb0 : Below w.heap.size w W0 := by rw [hW]; exact (Below.refl _ _).alloc (Nat.le_refl _) _
  have hts : Ts W0 W0.heap.size (some ⟨w.heap.size, 0, none⟩) Pr.us0 := by rw [hW]; exact us0_ts w _
  have HB0 := Lib.hid hb0
  have HT0 := Lib.hid (hT.next hb0)
  have HTs := Lib.hid hts
  have C1 : Hid (Calls Tryd.prog 12 #[.slice (some ⟨w.heap.size, 0, none⟩) 2 2] W0 (Sg ⟨#[92, 51, 49, 32, 97, 47, 42, 42, 47, 98]⟩ W0)) := Lib.hid (by
    have h := printP_yes Pr.ps0 Pr.us0_fair Pr.us0_wf Pr.us0_right (Pr.right_pt Pr.ps0_right) (some ⟨w.heap.size, 0, none⟩) 2 (by decide) W0 hts HT0.out
    rw [Pr.text0] at h
    exact h)
  have C2 : Hid (∀ W, Below W0.heap.size W0 W → Calls Tryd.prog 10 #[.slice (some ⟨w.heap.size, 0, none⟩) 2 2] W (Bo true W)) := Lib.hid fun W h => rightP_any Pr.us0 Pr.us0_fair Pr.us0_wf true (by simp [Pr.us0_right]) _ 2 (by decide) W (HTs.out.next h) (HT0.out.next h)
  have C3 : Hid (∀ W, Below W0.heap.size W0 W → Calls Tryd.prog 8 #[.agg #[.int .i64 10, .string ⟨#[101, 49]⟩, .int .i64 1500]] W (Sg ⟨#[49, 46, 53, 92, 54, 53, 32, 49]⟩ W)) := Lib.hid fun W h => by
    have := token_yes Pr.p1 Pr.p1_one (by unfold I64; decide) (by decide) W (HT0.out.next h)
    rw [Pr.text1] at this
    exact this
  clear hT hb0 hts
  go_enter Tryd.func7, Tryd.ntmps7
  go_upto_region 2 with fail
  rw [← hW]
  clear hW
  go_wp2_with (first | (go_at_call 12; ((with_reducible refine (C1.out).mono ?_); rintro e w1 ⟨rfl, b1⟩; have HB1 := Lib.hid b1; clear b1)) | (go_at_call 10; ((with_reducible refine (C2.out _ HB1.out).mono ?_); rintro e w2 ⟨rfl, b2⟩; have HB2 := Lib.hid (below_next HB1.out b2); clear b2)) | (go_at_call 8; ((with_reducible refine (C3.out _ HB2.out).mono ?_); rintro e w3 ⟨rfl, b3⟩; have HB3 := Lib.hid (below_next HB2.out b3); clear b3)))
  go_ret
  exact ⟨rfl, below_next HB0.out HB3.out⟩
end Go.Proofs.YtgcmjkimiakibaaDoor

/-
  Plain: how the reference tells a text's characters. No run of the program in this text.
-/
namespace Go.Proofs.YtgcmjkimiakibaaDoor
namespace Pr
open Ru Tk
open Go.Lib (encodeRuneZ)

/-- how many bytes a character has that begins so -/
def refN (a : Int) : Nat := if 240 ≤ a then 4 else if 224 ≤ a then 3 else if 128 ≤ a then 2 else 1
/-- which character that is -/
def refC (l : List Int) : Int :=
  if 240 ≤ g l 0 then (((g l 0 - 240) * 64 + g l 1 - 128) * 64 + g l 2 - 128) * 64 + g l 3 - 128
  else if 224 ≤ g l 0 then ((g l 0 - 224) * 64 + g l 1 - 128) * 64 + g l 2 - 128
  else if 128 ≤ g l 0 then (g l 0 - 192) * 64 + g l 1 - 128
  else g l 0
theorem enc_ref {d : Int} (h : Is d) (r : List Int) : refN (g (encodeRuneZ d ++ r) 0) = (encodeRuneZ d).length ∧ refC (encodeRuneZ d ++ r) = d := by
  unfold Is at h
  obtain ⟨L, hL⟩ : ∃ L, L = encodeRuneZ d ++ r := ⟨_, rfl⟩
  rw [← hL]
  by_cases c1 : d ≤ 127
  · rw [Lib.encodeRuneZ_one h.1 c1] at hL ⊢
    have h0 : g L 0 = d := by rw [hL]; rfl
    unfold refN refC
    rw [h0, if_neg (by omega), if_neg (by omega), if_neg (by omega), if_neg (by omega), if_neg (by omega), if_neg (by omega)]
    exact ⟨rfl, rfl⟩
  · by_cases c2 : d ≤ 2047
    · rw [Lib.encodeRuneZ_two (by omega) c2] at hL ⊢
      have h0 : g L 0 = 192 + d / 64 := by rw [hL]; rfl
      have h1 : g L 1 = 128 + d % 64 := by rw [hL]; rfl
      unfold refN refC
      rw [h0, h1, if_neg (by omega), if_neg (by omega), if_pos (by omega), if_neg (by omega), if_neg (by omega), if_pos (by omega)]
      exact ⟨rfl, by omega⟩
    · by_cases c3 : d ≤ 65535
      · rw [Lib.encodeRuneZ_three (by omega)] at hL ⊢
        have h0 : g L 0 = 224 + d / 4096 := by rw [hL]; rfl
        have h1 : g L 1 = 128 + d / 64 % 64 := by rw [hL]; rfl
        have h2 : g L 2 = 128 + d % 64 := by rw [hL]; rfl
        unfold refN refC
        rw [h0, h1, h2, if_neg (by omega), if_pos (by omega), if_neg (by omega), if_pos (by omega)]
        exact ⟨rfl, by omega⟩
      · rw [Lib.encodeRuneZ_four (by omega) (by omega)] at hL ⊢
        have h0 : g L 0 = 240 + d / 262144 := by rw [hL]; rfl
        have h1 : g L 1 = 128 + d / 4096 % 64 := by rw [hL]; rfl
        have h2 : g L 2 = 128 + d / 64 % 64 := by rw [hL]; rfl
        have h3 : g L 3 = 128 + d % 64 := by rw [hL]; rfl
        unfold refN refC
        rw [h0, h1, h2, h3, if_pos (by omega), if_pos (by omega)]
        exact ⟨rfl, by omega⟩
/-- the characters so far, and the bytes that are left -/
def Chars (t : ByteArray) (ds : List Int) (p : Nat) : Prop := p ≤ t.size ∧ (bs t).take p = wr ds ∧ ∀ c ∈ ds, Is c
theorem Chars.start (t : ByteArray) : Chars t [] 0 := ⟨by omega, by rw [List.take_zero]; rfl, fun c hc => by cases hc⟩
theorem Chars.bytes {t : ByteArray} {ds : List Int} {p : Nat} (h : Chars t ds p) : bs t = wr ds ++ (bs t).drop p := by rw [← h.2.1, List.take_append_drop]
/-- one that is right -/
theorem Chars.next {t : ByteArray} {ds : List Int} {p n : Nat} {c : Int} (h : Chars t ds p) (hc : Is c) (hn : n = (encodeRuneZ c).length) (he : encodeRuneZ c = ((bs t).drop p).take n) : Chars t (ds ++ [c]) (p + n) := by
  have hl := congrArg List.length he
  rw [List.length_take, List.length_drop, bs_len] at hl
  refine ⟨by have := h.1; have := enc_pos c; omega, ?_, fun x hx => ?_⟩
  · rw [List.take_add, h.2.1, wr_app, ← he]
    rw [wr_cons, wr_nil, List.append_nil]
  · rcases List.mem_append.1 hx with hx | hx
    · exact h.2.2 x hx
    · rw [List.mem_singleton] at hx; subst hx; exact hc
/-- .. that is none: the text is of no characters -/
theorem Chars.none {t : ByteArray} {ds : List Int} {p : Nat} (h : Chars t ds p) (hp : p < t.size) (hno : ∀ d r, Is d → (bs t).drop p ≠ encodeRuneZ d ++ r) : ¬ ∃ cs, Txt t cs := by
  rintro ⟨cs, hx⟩
  have e : wr cs = wr ds ++ (bs t).drop p := hx.1.symm.trans h.bytes
  obtain ⟨cs', rfl, e2⟩ := wr_pre ds cs _ h.2.2 hx.2 e.symm
  cases cs' with
  | nil =>
    have hl := congrArg List.length e2
    rw [List.length_drop, bs_len, wr_nil] at hl
    simp at hl
    omega
  | cons d r => exact hno d (wr r) (hx.2 d (by simp)) (by rw [e2, wr_cons])
theorem Chars.done {t : ByteArray} {ds : List Int} {p : Nat} (h : Chars t ds p) (hp : ¬ p < t.size) : Txt t ds := by
  refine ⟨?_, h.2.2⟩
  have := h.bytes
  rw [List.drop_eq_nil_of_le (by rw [bs_len]; omega), List.append_nil] at this
  exact this
/-- what the reference's test finds -/
theorem ref_fail {L : List Int} (h : L.length < refN (g L 0) ∨ refC L < 0 ∨ isB (refC L) = false ∨ encodeRuneZ (refC L) ≠ L.take (refN (g L 0))) : ∀ d r, Is d → L ≠ encodeRuneZ d ++ r := by
  rintro d r hd rfl
  obtain ⟨e1, e2⟩ := enc_ref hd r
  rw [e1, e2] at h
  rcases h with h | h | h | h
  · rw [List.length_append] at h; omega
  · have := (Is_lt hd).1; omega
  · rw [Is_isB hd] at h; cases h
  · exact h (by rw [List.take_left])
theorem ref_ok {L : List Int} (he : encodeRuneZ (refC L) = L.take (refN (g L 0))) (hn : refN (g L 0) ≤ L.length) : refN (g L 0) = (encodeRuneZ (refC L)).length := by
  rw [he, List.length_take]; omega
end Pr
end Go.Proofs.YtgcmjkimiakibaaDoor

/-
  Walks of the small functions of the reference: what a character is.
-/
namespace Go.Proofs.YtgcmjkimiakibaaDoor
open Go.RowKit

/-! ### the reference -/
set_option maxHeartbeats 400000 in
theorem ris_any (c : Int) (w : World) :
    Calls Tryd.prog 46 #[.int .i64 c] w fun e w' => e = .returned (.bool (Ru.isB c)) ∧ w = w' := by
  by_cases a1 : 0 ≤ c <;> by_cases a2 : c ≤ 1114111 <;> by_cases a3 : c < 55296 <;> by_cases a4 : 57343 < c
  all_goals try omega
  all_goals
    go_enter Tryd.func46, Tryd.ntmps46
    go_wp2_with fail
    go_ret
    exact ⟨ret_bool (by unfold Ru.isB; simp; try omega), rfl⟩

set_option maxHeartbeats 800000 in
theorem rbegins_any (c : Int) (w : World) :
    Calls Tryd.prog 45 #[.int .i64 c] w fun e w' => e = .returned (.bool (Ru.begB c)) ∧ w = w' := by
  by_cases b1 : c = 95
  · subst b1
    go_enter Tryd.func45, Tryd.ntmps45
    go_wp2_with fail
    go_ret
    exact ⟨rfl, rfl⟩
  · have e1 := Ru.eq_f b1
    by_cases b2 : 128 ≤ c
    · go_enter Tryd.func45, Tryd.ntmps45
      go_wp2_with (go_at_call 46; refine (ris_any _ _).mono ?_; rintro e w' ⟨rfl, rfl⟩)
      go_ret
      exact ⟨ret_bool (by unfold Ru.begB Ru.isB; rw [Bool.eq_iff_iff]; simp; omega), rfl⟩
    · by_cases a1 : 97 ≤ c <;> by_cases a2 : c ≤ 122 <;> by_cases a3 : 65 ≤ c <;> by_cases a4 : c ≤ 90
      all_goals try omega
      all_goals
        go_enter Tryd.func45, Tryd.ntmps45
        go_wp2_with fail
        go_ret
        exact ⟨ret_bool (by unfold Ru.begB; simp; try omega), rfl⟩

end Go.Proofs.YtgcmjkimiakibaaDoor

/-
  The walks of the reference's Bytes and Write.
-/
namespace Go.Proofs.YtgcmjkimiakibaaDoor
open Go.RowKit

/-- a slice that reads as numbers, in what is new -/
def Fresh (k : IntKind) (l : List Int) (w : World) (e : Ending) (w' : World) : Prop :=
  ∃ (b cap : Nat), e = .returned (.slice (some ⟨b, 0, none⟩) l.length cap) ∧ (∀ j u, (nums k l)[j]? = some u → w'.cell? ((⟨b, 0, none⟩ : Addr).add j) = some u) ∧ Below w.heap.size w w'
theorem fresh_made {w : World} {k : IntKind} {l : List Int} {E : TypeId} (v : Ending) (h : v = .returned (.slice (some ⟨w.heap.size, 0, none⟩) l.length l.length)) : Fresh k l w v (w.alloc (.cells (nums k l).toArray E)) := by
  refine ⟨w.heap.size, l.length, h, fun j u hj => ?_, (Below.refl _ _).alloc (Nat.le_refl _) _⟩
  rw [Addr.add_lit, cell_of_row _ _ _ (nums k l).toArray E (0, 0) (heap_alloc_new w _)]
  simpa using hj

set_option maxHeartbeats 1000000 in
theorem bytes_any (c : Int) (w : World) (h : Ru.Is c) :
    Calls Tryd.prog 47 #[.int .i64 c] w (Fresh .u8 (Lib.encodeRuneZ c) w) := by
  unfold Ru.Is at h
  by_cases h1 : c < 128
  · have e := Lib.encodeRuneZ_one h.1 (by omega : c ≤ 127)
    rw [e]
    have q0 : 0 ≤ c := h.1
    clear e h
    go_enter Tryd.func47, Tryd.ntmps47
    go_wp2_with fail
    go_ret
    exact fresh_made _ rfl
  · by_cases h2 : c < 2048
    · have e := Lib.encodeRuneZ_two (by omega : 128 ≤ c) (by omega)
      rw [e]
      clear e h
      go_enter Tryd.func47, Tryd.ntmps47
      go_wp2_with fail
      go_ret
      exact fresh_made _ rfl
    · by_cases h3 : c < 65536
      · have e := Lib.encodeRuneZ_three (r := c) (by omega)
        rw [e]
        clear e h
        go_enter Tryd.func47, Tryd.ntmps47
        go_wp2_with fail
        go_ret
        exact fresh_made _ rfl
      · have e := Lib.encodeRuneZ_four (r := c) (by omega) (by omega)
        rw [e]
        have q1 : c ≤ 1114111 := by omega
        clear e h
        go_enter Tryd.func47, Tryd.ntmps47
        go_wp2_with fail
        go_ret
        exact fresh_made _ rfl
end Go.Proofs.YtgcmjkimiakibaaDoor
