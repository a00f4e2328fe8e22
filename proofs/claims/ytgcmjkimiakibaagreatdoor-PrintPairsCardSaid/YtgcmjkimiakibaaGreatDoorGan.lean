/-
  The walk of print's delimits.
-/
import Derived.Test.YtgcmjkimiakibaaGreatDoorGal
namespace Go.Proofs.YtgcmjkimiakibaaGreatDoor
open Go.RowKit

namespace Pr
open Ru Tk
/-- a Delim's text -/
def DelT (t : ByteArray) : Prop := ∃ c, Txt t [c] ∧ Ok [c] ∧ Del c
theorem dec_none {t : ByteArray} (h : t.size = 0) : Lib.decodeGo t = (65533, 0) := by
  show (if t.size = 0 then (65533, 0) else Utf8.decode t 0) = _
  rw [if_pos h]
theorem dec_some {t : ByteArray} {c : Int} {r : List Int} (h : Txt t (c :: r)) : ((Lib.decodeGo t).1 : Int) = c ∧ (Lib.decodeGo t).2 = (Lib.encodeRuneZ c).length ∧ t.size = (Lib.encodeRuneZ c).length + (wr r).length ∧ 0 < t.size := by
  have hc := h.2 c (by simp)
  have hs := txt_size h
  rw [wr_cons, List.length_append] at hs
  have hp := enc_pos c
  have e : Lib.decodeGo t = Utf8.decode t 0 := by
    show (if t.size = 0 then (65533, 0) else Utf8.decode t 0) = _
    rw [if_neg (by omega)]
  obtain ⟨e1, e2, _⟩ := dec_at (t := t) (pos := 0) (r := wr r) hc (by rw [List.drop_zero, h.1, wr_cons])
  rw [e]
  exact ⟨e1, e2, hs, by omega⟩
theorem wr_pos {r : List Int} (h : r ≠ []) : 0 < (wr r).length := by
  have := wr_len_ge r
  have := List.length_pos_iff.2 h
  omega
/-- how the test of a Delim's character goes -/
inductive DelW (c : Int) : Prop
  | white (h : whiB c = true)
  | ff (h : whiB c = false) (h1 : c = 12)
  | cr (h : whiB c = false) (h1 : c = 13)
  | beg (h : whiB c = false) (h1 : c ≠ 12) (h2 : c ≠ 13) (h3 : begB c = true)
  | dig (h : whiB c = false) (h1 : c ≠ 12) (h2 : c ≠ 13) (h3 : begB c = false) (h4 : digB c = true)
  | rest (h : whiB c = false) (h1 : c ≠ 12) (h2 : c ≠ 13) (h3 : begB c = false) (h4 : digB c = false)
theorem delW (c : Int) : DelW c := by
  cases h : whiB c
  · by_cases h1 : c = 12
    · exact .ff h h1
    · by_cases h2 : c = 13
      · exact .cr h h2
      · cases h3 : begB c
        · cases h4 : digB c
          · exact .rest h h1 h2 h3 h4
          · exact .dig h h1 h2 h3 h4
        · exact .beg h h1 h2 h3
  · exact .white h
abbrev marks : ByteArray := ⟨#[40, 41, 91, 93, 123, 125, 58, 59, 44, 34, 39]⟩
theorem mem_marks {c : Int} (h0 : 0 ≤ c) (h1 : c < 128) : (0 ≤ Lib.indexByte marks.data.toList c.toNat.toUInt8) ↔ c = 40 ∨ c = 41 ∨ c = 91 ∨ c = 93 ∨ c = 123 ∨ c = 125 ∨ c = 58 ∨ c = 59 ∨ c = 44 ∨ c = 34 ∨ c = 39 := by
  have h := idx_neg c.toNat.toUInt8 marks.data.toList
  have hm : c.toNat.toUInt8 ∈ marks.data.toList ↔ c = 40 ∨ c = 41 ∨ c = 91 ∨ c = 93 ∨ c = 123 ∨ c = 125 ∨ c = 58 ∨ c = 59 ∨ c = 44 ∨ c = 34 ∨ c = 39 := by
    have e : ∀ n : UInt8, n.toNat < 128 → (c.toNat.toUInt8 = n ↔ c = (n.toNat : Int)) := fun n hn => by
      have ht : c.toNat.toUInt8.toNat = c.toNat := by
        rw [show c.toNat.toUInt8.toNat = c.toNat % 256 from UInt8.toNat_ofNat']; omega
      constructor
      · intro e
        have := congrArg UInt8.toNat e
        omega
      · intro e
        exact UInt8.toNat_inj.1 (by omega)
    show c.toNat.toUInt8 ∈ [40, 41, 91, 93, 123, 125, 58, 59, 44, 34, 39] ↔ _
    simp only [List.mem_cons, List.not_mem_nil, or_false]
    rw [e 40 (by decide), e 41 (by decide), e 91 (by decide), e 93 (by decide), e 123 (by decide), e 125 (by decide), e 58 (by decide), e 59 (by decide), e 44 (by decide), e 34 (by decide), e 39 (by decide)]
    rfl
  rw [← hm]
  constructor
  · intro h2
    by_cases h3 : c.toNat.toUInt8 ∈ marks.data.toList
    · exact h3
    · have := h.2 h3; omega
  · intro h2
    by_cases h3 : Lib.indexByte marks.data.toList c.toNat.toUInt8 < 0
    · exact absurd h2 (h.1 h3)
    · omega
theorem del_iff {c : Int} (h : whiB c = false) (h1 : c ≠ 12) (h2 : c ≠ 13) (h3 : begB c = false) (h4 : digB c = false) : Del c ↔ ¬ (c = 40 ∨ c = 41 ∨ c = 91 ∨ c = 93 ∨ c = 123 ∨ c = 125 ∨ c = 58 ∨ c = 59 ∨ c = 44 ∨ c = 34 ∨ c = 39) := by
  unfold whiB at h
  unfold digB at h4
  have h := of_decide_eq_false h
  have h4 := of_decide_eq_false h4
  unfold Del
  rw [h3]
  constructor
  · intro hd; omega
  · intro hd; exact ⟨rfl, by omega⟩
end Pr

set_option maxHeartbeats 1000000 in
set_option maxRecDepth 100000 in
theorem delimits_any (t : ByteArray) (b : Bool) (hb : b = true ↔ Pr.DelT t) (hm : t.size ≤ 9223372036854775807) (w : World) (hT : UTab w.heap.size w) : Calls Tryz.prog 57 #[.string t] w (Bo b w) := by
  have C1 := Lib.hid (Tryz.utf8_DecodeRuneInString t w hT.1)
  have HT := Lib.hid hT
  clear hT
  by_cases hs : Pr.Snd t
  · obtain ⟨cs, hx, ho⟩ := hs
    have CS : Hid (∀ w1, Below w.heap.size w w1 → Calls Tryz.prog 56 #[.string t] w1 (Bo true w1)) := Lib.hid fun w1 h1 => sound_any t true (by simp; exact ⟨cs, hx, ho⟩) hm w1 (HT.out.next h1)
    rcases cs with _ | ⟨c, _ | ⟨d, r⟩⟩
    · have h0 : t.size = 0 := (Pr.txt_nil hx).2 rfl
      obtain rfl : b = false := by
        rw [Bool.eq_false_iff]
        intro hh
        obtain ⟨c, h1, _⟩ := hb.1 hh
        have := (Pr.dec_some h1).2.2.2
        omega
      rw [Pr.dec_none h0] at C1
      clear hb hx ho CS HT
      go_enter Tryz.func57, Tryz.ntmps57
      go_wp2_with (go_at_call 85; ((with_reducible refine (C1.out).mono ?_); rintro e w1 ⟨rfl, b1⟩))
      go_ret
      exact ⟨rfl, b1⟩
    · obtain ⟨d1, d2, d3, d4⟩ := Pr.dec_some hx
      have hl : (Lib.decodeGo t).2 = t.size := by rw [d2, d3]; simp [Pr.wr_nil]
      rw [d1, hl] at C1
      have his := Pr.Is_lt (ho c (by simp)).1
      have hbd : b = true ↔ Pr.Del c := by
        rw [hb]
        constructor
        · rintro ⟨c', h1, _, h3⟩
          have := Pr.Txt.one hx h1
          injection this with e _
          rw [e]; exact h3
        · intro h; exact ⟨c, hx, ho, h⟩
      have K1 := Lib.hid (fun w => white_any c w)
      have K2 := Lib.hid (fun w => begins_any c w)
      have K3 := Lib.hid (fun w => isdigit_any c w)
      clear hb d1 d2 d3 hl hx
      have hlt : decide ((t.size : Int) < t.size) = false := decide_eq_false (by omega)
      have hz := Ru.eq_f (show ¬ (t.size : Int) = 0 by omega)
      rcases Pr.delW c with h | ⟨h, h1⟩ | ⟨h, h1⟩ | ⟨h, h1, h2, h3⟩ | ⟨h, h1, h2, h3, h4⟩ | ⟨h, h1, h2, h3, h4⟩
      · obtain rfl : b = false := by
          rw [Bool.eq_false_iff]
          intro hh
          have hD := hbd.1 hh
          unfold Pr.Del at hD
          unfold Ru.whiB at h
          have := of_decide_eq_true h
          omega
        rw [h] at K1
        clear hbd h ho his
        go_enter Tryz.func57, Tryz.ntmps57
        go_wp2_with (first | (go_at_call 85; ((with_reducible refine (C1.out).mono ?_); rintro e w1 ⟨rfl, b1⟩)) | (go_at_call 56; ((with_reducible refine (CS.out _ b1).mono ?_); rintro e w2 ⟨rfl, b2⟩)) | (go_at_call 33; ((with_reducible refine (K1.out _).mono ?_); rintro e w3 ⟨rfl, rfl⟩)) | (go_at_call 72; ((with_reducible refine (K2.out _).mono ?_); rintro e w3 ⟨rfl, rfl⟩)) | (go_at_call 73; ((with_reducible refine (K3.out _).mono ?_); rintro e w3 ⟨rfl, rfl⟩)) | (go_at_call 86; ((with_reducible refine (K4.out _).mono ?_); rintro e w3 ⟨rfl, hw3⟩; rw [hw3])))
        go_ret
        exact ⟨rfl, below_next b1 b2⟩
      · obtain rfl : b = false := by
          rw [Bool.eq_false_iff]
          intro hh
          have hD := hbd.1 hh
          unfold Pr.Del at hD
          omega
        rw [h] at K1
        have q := Ru.eq_t h1
        clear hbd h ho his h1
        go_enter Tryz.func57, Tryz.ntmps57
        go_wp2_with (first | (go_at_call 85; ((with_reducible refine (C1.out).mono ?_); rintro e w1 ⟨rfl, b1⟩)) | (go_at_call 56; ((with_reducible refine (CS.out _ b1).mono ?_); rintro e w2 ⟨rfl, b2⟩)) | (go_at_call 33; ((with_reducible refine (K1.out _).mono ?_); rintro e w3 ⟨rfl, rfl⟩)) | (go_at_call 72; ((with_reducible refine (K2.out _).mono ?_); rintro e w3 ⟨rfl, rfl⟩)) | (go_at_call 73; ((with_reducible refine (K3.out _).mono ?_); rintro e w3 ⟨rfl, rfl⟩)) | (go_at_call 86; ((with_reducible refine (K4.out _).mono ?_); rintro e w3 ⟨rfl, hw3⟩; rw [hw3])))
        go_ret
        exact ⟨rfl, below_next b1 b2⟩
      · obtain rfl : b = false := by
          rw [Bool.eq_false_iff]
          intro hh
          have hD := hbd.1 hh
          unfold Pr.Del at hD
          omega
        rw [h] at K1
        have q0 := Ru.eq_f (show ¬ c = 12 by omega)
        have q := Ru.eq_t h1
        clear hbd h ho his h1
        go_enter Tryz.func57, Tryz.ntmps57
        go_wp2_with (first | (go_at_call 85; ((with_reducible refine (C1.out).mono ?_); rintro e w1 ⟨rfl, b1⟩)) | (go_at_call 56; ((with_reducible refine (CS.out _ b1).mono ?_); rintro e w2 ⟨rfl, b2⟩)) | (go_at_call 33; ((with_reducible refine (K1.out _).mono ?_); rintro e w3 ⟨rfl, rfl⟩)) | (go_at_call 72; ((with_reducible refine (K2.out _).mono ?_); rintro e w3 ⟨rfl, rfl⟩)) | (go_at_call 73; ((with_reducible refine (K3.out _).mono ?_); rintro e w3 ⟨rfl, rfl⟩)) | (go_at_call 86; ((with_reducible refine (K4.out _).mono ?_); rintro e w3 ⟨rfl, hw3⟩; rw [hw3])))
        go_ret
        exact ⟨rfl, below_next b1 b2⟩
      · obtain rfl : b = false := by
          rw [Bool.eq_false_iff]
          intro hh
          have hD := hbd.1 hh
          unfold Pr.Del at hD
          rw [hD.1] at h3; cases h3
        rw [h] at K1
        rw [h3] at K2
        have q0 := Ru.eq_f h1
        have q := Ru.eq_f h2
        clear hbd h ho his h1 h2 h3
        go_enter Tryz.func57, Tryz.ntmps57
        go_wp2_with (first | (go_at_call 85; ((with_reducible refine (C1.out).mono ?_); rintro e w1 ⟨rfl, b1⟩)) | (go_at_call 56; ((with_reducible refine (CS.out _ b1).mono ?_); rintro e w2 ⟨rfl, b2⟩)) | (go_at_call 33; ((with_reducible refine (K1.out _).mono ?_); rintro e w3 ⟨rfl, rfl⟩)) | (go_at_call 72; ((with_reducible refine (K2.out _).mono ?_); rintro e w3 ⟨rfl, rfl⟩)) | (go_at_call 73; ((with_reducible refine (K3.out _).mono ?_); rintro e w3 ⟨rfl, rfl⟩)) | (go_at_call 86; ((with_reducible refine (K4.out _).mono ?_); rintro e w3 ⟨rfl, hw3⟩; rw [hw3])))
        go_ret
        exact ⟨rfl, below_next b1 b2⟩
      · obtain rfl : b = false := by
          rw [Bool.eq_false_iff]
          intro hh
          have hD := hbd.1 hh
          unfold Pr.Del at hD
          unfold Ru.digB at h4
          have := of_decide_eq_true h4
          omega
        rw [h] at K1
        rw [h3] at K2
        rw [h4] at K3
        have q0 := Ru.eq_f h1
        have q := Ru.eq_f h2
        clear hbd h ho his h1 h2 h3 h4
        go_enter Tryz.func57, Tryz.ntmps57
        go_wp2_with (first | (go_at_call 85; ((with_reducible refine (C1.out).mono ?_); rintro e w1 ⟨rfl, b1⟩)) | (go_at_call 56; ((with_reducible refine (CS.out _ b1).mono ?_); rintro e w2 ⟨rfl, b2⟩)) | (go_at_call 33; ((with_reducible refine (K1.out _).mono ?_); rintro e w3 ⟨rfl, rfl⟩)) | (go_at_call 72; ((with_reducible refine (K2.out _).mono ?_); rintro e w3 ⟨rfl, rfl⟩)) | (go_at_call 73; ((with_reducible refine (K3.out _).mono ?_); rintro e w3 ⟨rfl, rfl⟩)) | (go_at_call 86; ((with_reducible refine (K4.out _).mono ?_); rintro e w3 ⟨rfl, hw3⟩; rw [hw3])))
        go_ret
        exact ⟨rfl, below_next b1 b2⟩
      · have hlo : c < 128 := by
          by_cases h5 : c < 128
          · exact h5
          · exfalso
            have hi := (ho c (by simp)).1
            unfold Ru.Is at hi
            unfold Ru.begB at h3
            have := of_decide_eq_false h3
            omega
        have K4 := Lib.hid (fun w => Tryz.strings_ContainsRune_ascii Pr.marks c w his.1 hlo)
        have hmk := Pr.mem_marks his.1 hlo
        have hdl := Pr.del_iff h h1 h2 h3 h4
        rw [hdl, ← hmk] at hbd
        rw [h] at K1
        rw [h3] at K2
        rw [h4] at K3
        have q0 := Ru.eq_f h1
        have q := Ru.eq_f h2
        clear hdl hmk h ho his h1 h2 h3 h4 hlo
        generalize Lib.indexByte Pr.marks.data.toList c.toNat.toUInt8 = x at *
        by_cases hx : 0 ≤ x
        · obtain rfl : b = false := by
            rw [Bool.eq_false_iff]
            intro hh
            exact hbd.1 hh hx
          rw [decide_eq_true hx] at K4
          clear hbd hx
          go_enter Tryz.func57, Tryz.ntmps57
          go_wp2_with (first | (go_at_call 85; ((with_reducible refine (C1.out).mono ?_); rintro e w1 ⟨rfl, b1⟩)) | (go_at_call 56; ((with_reducible refine (CS.out _ b1).mono ?_); rintro e w2 ⟨rfl, b2⟩)) | (go_at_call 33; ((with_reducible refine (K1.out _).mono ?_); rintro e w3 ⟨rfl, rfl⟩)) | (go_at_call 72; ((with_reducible refine (K2.out _).mono ?_); rintro e w3 ⟨rfl, rfl⟩)) | (go_at_call 73; ((with_reducible refine (K3.out _).mono ?_); rintro e w3 ⟨rfl, rfl⟩)) | (go_at_call 86; ((with_reducible refine (K4.out _).mono ?_); rintro e w3 ⟨rfl, hw3⟩; rw [hw3])))
          go_ret
          exact ⟨rfl, below_next b1 b2⟩
        · obtain rfl : b = true := hbd.2 hx
          rw [decide_eq_false hx] at K4
          clear hbd hx
          go_enter Tryz.func57, Tryz.ntmps57
          go_wp2_with (first | (go_at_call 85; ((with_reducible refine (C1.out).mono ?_); rintro e w1 ⟨rfl, b1⟩)) | (go_at_call 56; ((with_reducible refine (CS.out _ b1).mono ?_); rintro e w2 ⟨rfl, b2⟩)) | (go_at_call 33; ((with_reducible refine (K1.out _).mono ?_); rintro e w3 ⟨rfl, rfl⟩)) | (go_at_call 72; ((with_reducible refine (K2.out _).mono ?_); rintro e w3 ⟨rfl, rfl⟩)) | (go_at_call 73; ((with_reducible refine (K3.out _).mono ?_); rintro e w3 ⟨rfl, rfl⟩)) | (go_at_call 86; ((with_reducible refine (K4.out _).mono ?_); rintro e w3 ⟨rfl, hw3⟩; rw [hw3])))
          go_ret
          exact ⟨rfl, below_next b1 b2⟩
    · obtain ⟨d1, d2, d3, d4⟩ := Pr.dec_some hx
      have hp := Pr.wr_pos (show d :: r ≠ [] by simp)
      obtain rfl : b = false := by
        rw [Bool.eq_false_iff]
        intro hh
        obtain ⟨c', h1, _⟩ := hb.1 hh
        have := Pr.Txt.one hx h1
        simp at this
      rw [d1] at C1
      have hlt : decide ((Lib.decodeGo t).2 < t.size) = true := decide_eq_true (by omega)
      have hz := Ru.eq_f (show ¬ ((Lib.decodeGo t).2 : Int) = 0 by have := Pr.enc_pos c; omega)
      clear hb hx ho CS HT d1 d2 d3 d4 hp
      generalize (Lib.decodeGo t).2 = sz at *
      go_enter Tryz.func57, Tryz.ntmps57
      go_wp2_with (go_at_call 85; ((with_reducible refine (C1.out).mono ?_); rintro e w1 ⟨rfl, b1⟩))
      go_ret
      exact ⟨rfl, b1⟩
  · obtain rfl : b = false := by
      rw [Bool.eq_false_iff]
      intro hh
      obtain ⟨c, h1, h2, _⟩ := hb.1 hh
      exact hs ⟨_, h1, h2⟩
    have CS : Hid (∀ w1, Below w.heap.size w w1 → Calls Tryz.prog 56 #[.string t] w1 (Bo false w1)) := Lib.hid fun w1 h1 => sound_any t false (by simp; exact hs) hm w1 (HT.out.next h1)
    generalize ((Lib.decodeGo t).1 : Int) = c at *
    generalize (Lib.decodeGo t).2 = sz at *
    clear hb hs HT
    by_cases hz : (sz : Int) = 0
    · have hz' := Ru.eq_t hz
      clear hz
      go_enter Tryz.func57, Tryz.ntmps57
      go_wp2_with (go_at_call 85; ((with_reducible refine (C1.out).mono ?_); rintro e w1 ⟨rfl, b1⟩))
      go_ret
      exact ⟨rfl, b1⟩
    · have hz' := Ru.eq_f hz
      clear hz
      by_cases hl : sz < t.size
      · have hl' : decide (sz < t.size) = true := decide_eq_true hl
        clear hl
        go_enter Tryz.func57, Tryz.ntmps57
        go_wp2_with (go_at_call 85; ((with_reducible refine (C1.out).mono ?_); rintro e w1 ⟨rfl, b1⟩))
        go_ret
        exact ⟨rfl, b1⟩
      · have hl' : decide (sz < t.size) = false := decide_eq_false hl
        clear hl
        go_enter Tryz.func57, Tryz.ntmps57
        go_wp2_with (first | (go_at_call 85; ((with_reducible refine (C1.out).mono ?_); rintro e w1 ⟨rfl, b1⟩)) | (go_at_call 56; ((with_reducible refine (CS.out _ b1).mono ?_); rintro e w2 ⟨rfl, b2⟩)))
        go_ret
        exact ⟨rfl, below_next b1 b2⟩
end Go.Proofs.YtgcmjkimiakibaaGreatDoor
