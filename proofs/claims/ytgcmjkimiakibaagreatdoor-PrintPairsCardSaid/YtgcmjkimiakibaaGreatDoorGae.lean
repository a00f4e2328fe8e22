/-
  Plain words of tokens: the program's own way, and that it comes to the same. No run of the program in this text.
-/
import Derived.Test.YtgcmjkimiakibaaGreatDoorGad
import Derived.Test.YtgcmjkimiakibaaGreatDoorGab
import Derived.WalkSpells
import Derived.WalkLawsBesides
import Derived.Lib.AppendIntMem
import Derived.Lib.SmallJoins
import Derived.Lib.ItoaLen
import Derived.Lib.TrimByte
namespace Go.Proofs.YtgcmjkimiakibaaGreatDoor
namespace Fx
/-- the byte there ends every decimal -/
def Ends (L : List UInt8) (m : Nat) : Prop := at' L m = 128 ∨ at' L m = 0
theorem ends_isD {L : List UInt8} {m : Nat} (h : Ends L m) : isD (at' L m) = false := by rcases h with h | h <;> rw [h] <;> decide
theorem ends_ne {L : List UInt8} {m : Nat} (h : Ends L m) {c : UInt8} (h1 : c ≠ 128) (h2 : c ≠ 0) : at' L m ≠ c := by
  rcases h with h | h <;> rw [h]
  · exact fun e => h1 e.symm
  · exact fun e => h2 e.symm
theorem dig_stop {L : List UInt8} {m : Nat} (h : Ends L m) : ∀ n a, n = m - a → a ≤ m → dig L a ≤ m
  | 0, a, hn, ha => by
    have : a = m := by omega
    subst this
    rw [dig_no L a (ends_isD h)]; exact Nat.le_refl _
  | n + 1, a, hn, ha => by
    cases hd : isD (at' L a)
    · rw [dig_no L a hd]; exact ha
    · have hne : a ≠ m := fun e => by rw [e, ends_isD h] at hd; cases hd
      rw [dig_yes L a hd]
      exact dig_stop h n (a + 1) (by omega) (by omega)
theorem dig_cut {L : List UInt8} {m a : Nat} (h : Ends L m) (ha : a ≤ m) : dig (L.take m) a = dig L a := by
  rw [dig_take' L ha]
  have := dig_stop h _ a rfl ha
  omega
theorem at_cut {L : List UInt8} {m a : Nat} (h : Ends L m) (ha : a ≤ m) {c : UInt8} (h1 : c ≠ 128) (h2 : c ≠ 0) : at' (L.take m) a = c ↔ at' L a = c := by
  by_cases hlt : a < m
  · rw [at_take L hlt]
  · have : a = m := by omega
    subst this
    rw [at_take_past L (Nat.le_refl _)]
    exact ⟨fun e => absurd e.symm h2, fun e => absurd e (ends_ne h h1 h2)⟩
theorem sgn_cut {L : List UInt8} {m a : Nat} (h : Ends L m) (ha : a ≤ m) : sgn (L.take m) a = sgn L a ∧ sgn L a ≤ m := by
  unfold sgn
  have e1 := at_cut h ha (c := 43) (by decide) (by decide)
  have e2 := at_cut h ha (c := 45) (by decide) (by decide)
  by_cases c : at' L a = 43 ∨ at' L a = 45
  · rw [if_pos c, if_pos (by rw [e1, e2]; exact c)]
    refine ⟨rfl, ?_⟩
    by_cases hlt : a < m
    · omega
    · have : a = m := by omega
      subst this
      rcases c with c | c
      · exact absurd c (ends_ne h (by decide) (by decide))
      · exact absurd c (ends_ne h (by decide) (by decide))
  · rw [if_neg c, if_neg (by rw [e1, e2]; exact c)]
    exact ⟨rfl, ha⟩
theorem spDof_cut {L : List UInt8} {m w : Nat} (h : Ends L m) (hw : w ≤ m) : spDof (L.take m) w = spDof L w ∧ spDof L w ≤ m := by
  have e1 := at_cut h hw (c := 46) (by decide) (by decide)
  by_cases c : at' L w = 46
  · have hlt : w < m := by
      by_cases hlt : w < m
      · exact hlt
      · have : w = m := by omega
        subst this
        exact absurd c (ends_ne h (by decide) (by decide))
    have e2 := dig_cut h (show w + 1 ≤ m by omega)
    have e3 := dig_stop h _ (w + 1) rfl (by omega)
    unfold spDof
    by_cases c2 : w + 1 < dig L (w + 1)
    · rw [if_pos ⟨e1.2 c, by rw [e2]; exact c2⟩, if_pos ⟨c, c2⟩, e2]; exact ⟨rfl, e3⟩
    · rw [if_neg (fun hh => c2 (by rw [← e2]; exact hh.2)), if_neg (fun hh => c2 hh.2)]; exact ⟨rfl, hw⟩
  · unfold spDof
    rw [if_neg (fun hh => c (e1.1 hh.1)), if_neg (fun hh => c hh.1)]
    exact ⟨rfl, hw⟩
theorem spEof_cut {L : List UInt8} {m d : Nat} (h : Ends L m) (hd : d ≤ m) : spEof (L.take m) d = spEof L d ∧ spEof L d ≤ m := by
  have e1 := at_cut h hd (c := 101) (by decide) (by decide)
  have e2 := at_cut h hd (c := 69) (by decide) (by decide)
  by_cases c : at' L d = 101 ∨ at' L d = 69
  · have hlt : d < m := by
      by_cases hlt : d < m
      · exact hlt
      · have : d = m := by omega
        subst this
        rcases c with c | c
        · exact absurd c (ends_ne h (by decide) (by decide))
        · exact absurd c (ends_ne h (by decide) (by decide))
    have e3 := sgn_cut h (show d + 1 ≤ m by omega)
    have e4 := dig_cut h e3.2
    have e5 := dig_stop h _ (sgn L (d + 1)) rfl e3.2
    have c' : at' (L.take m) d = 101 ∨ at' (L.take m) d = 69 := by rw [e1, e2]; exact c
    unfold spEof
    rw [e3.1, e4]
    by_cases c2 : sgn L (d + 1) < dig L (sgn L (d + 1))
    · rw [if_pos ⟨c', c2⟩, if_pos ⟨c, c2⟩]; exact ⟨rfl, e5⟩
    · rw [if_neg (fun hh => c2 hh.2), if_neg (fun hh => c2 hh.2)]; exact ⟨rfl, hd⟩
  · unfold spEof
    rw [if_neg (fun hh => c (by have := hh.1; rw [e1, e2] at this; exact this)), if_neg (fun hh => c hh.1)]
    exact ⟨rfl, hd⟩
theorem len_cut {L : List UInt8} {m : Nat} (h : Ends L m) : len (L.take m) = len L ∧ len L ≤ m := by
  have s := sgn_cut h (Nat.zero_le m)
  have w := dig_cut h s.2
  have w2 := dig_stop h _ (sgn L 0) rfl s.2
  have d := spDof_cut h w2
  have e := spEof_cut h d.2
  have es : spS (L.take m) = spS L := s.1
  have ew : spW (L.take m) = spW L := by unfold spW; rw [es]; exact w
  have ed : spD (L.take m) = spD L := by unfold spD; rw [ew]; exact d.1
  have ee : spE (L.take m) = spE L := by unfold spE; rw [ed]; exact e.1
  unfold len
  rw [es, ed, ee]
  refine ⟨rfl, ?_⟩
  split
  · omega
  · exact e.2
end Fx
namespace Tk
open Ru

/-- a character as a byte of the plain text -/
def p8 (c : Int) : UInt8 := UInt8.ofNat (min c 128).toNat
theorem p8_lt {c : Int} (h : c < 128) : p8 c = u8 c := by unfold p8 u8; rw [show min c 128 = c by omega]
theorem p8_ge {c : Int} (h : ¬ c < 128) : p8 c = 128 := by unfold p8; rw [show min c 128 = 128 by omega]; rfl
theorem numL_eq (l : List Int) (k : Nat) : numL l k = (ascL l k).map u8 := by
  unfold numL strOfNums; simp [u8]
theorem ascL_take (m : List Int) : (m.takeWhile fun c => decide (c < 128)).map u8 = (m.map p8).take (m.takeWhile fun c => decide (c < 128)).length ∧ Fx.Ends (m.map p8) (m.takeWhile fun c => decide (c < 128)).length := by
  induction m with
  | nil => exact ⟨rfl, .inr rfl⟩
  | cons a t ih =>
    by_cases h : a < 128
    · rw [List.takeWhile_cons, decide_eq_true h, if_pos rfl]
      refine ⟨?_, ?_⟩
      · rw [List.map_cons, List.map_cons, List.length_cons, List.take_succ_cons, p8_lt h, ← ih.1]
      · have := ih.2
        unfold Fx.Ends Fx.at' at *
        rw [List.map_cons, List.length_cons, List.getD_cons_succ]
        exact this
    · rw [List.takeWhile_cons, decide_eq_false h]
      refine ⟨rfl, .inl ?_⟩
      unfold Fx.at'
      rw [List.map_cons, p8_ge h]; rfl
/-- the plain text tells the same decimals -/
theorem plain_len (l : List Int) (k : Nat) : Fx.len ((l.map p8).drop k) = nlen l k := by
  have h := ascL_take (l.drop k)
  unfold nlen
  rw [numL_eq, ← List.map_drop]
  show _ = Fx.len (((l.drop k).takeWhile fun c => decide (c < 128)).map u8)
  rw [h.1]
  exact (Fx.len_cut h.2).1.symm
theorem plain_val (l : List Int) (k : Nat) : pv (((l.map p8).drop k).take (nlen l k)) = nval l k := by
  have h := ascL_take (l.drop k)
  have h2 := (Fx.len_cut h.2).2
  rw [List.map_drop, plain_len] at h2
  unfold nval
  rw [numL_eq]
  show _ = pv ((((l.drop k).takeWhile fun c => decide (c < 128)).map u8).take (nlen l k))
  rw [h.1, List.take_take, List.map_drop, Nat.min_eq_left h2]
/-- a decimal begins with such a character -/
theorem nlen_num {l : List Int} {k : Nat} (h : 0 < nlen l k) : k < l.length ∧ numB (g l k) = true := by
  have hk : k < l.length := by
    have h1 := numL_len l k
    have h2 := Fx.len_hi (numL l k)
    unfold nlen at h
    omega
  refine ⟨hk, ?_⟩
  rw [← plain_len] at h
  have e : Fx.at' ((l.map p8).drop k) 0 = p8 (g l k) := by
    unfold Fx.at'
    rw [← List.map_drop, List.drop_eq_getElem_cons hk, List.map_cons, g_eq hk]; rfl
  generalize (l.map p8).drop k = L at *
  unfold numB
  apply decide_eq_true
  have hne : Fx.spD L ≠ Fx.spS L := fun hh => by unfold Fx.len at h; rw [if_pos hh] at h; omega
  have key : Fx.at' L 0 = 43 ∨ Fx.at' L 0 = 45 ∨ Fx.at' L 0 = 46 ∨ Fx.isD (Fx.at' L 0) = true := by
    by_cases h1 : Fx.at' L 0 = 43
    · exact .inl h1
    by_cases h2 : Fx.at' L 0 = 45
    · exact .inr (.inl h2)
    by_cases h3 : Fx.at' L 0 = 46
    · exact .inr (.inr (.inl h3))
    cases hd : Fx.isD (Fx.at' L 0)
    · exfalso
      apply hne
      have es : Fx.spS L = 0 := by unfold Fx.spS Fx.sgn; rw [if_neg (by rintro (e | e); exact h1 e; exact h2 e)]
      have ew : Fx.spW L = 0 := by unfold Fx.spW; rw [es, Fx.dig_no L 0 hd]
      unfold Fx.spD Fx.spDof
      rw [ew, es, if_neg (fun hh => h3 hh.1)]
    · exact .inr (.inr (.inr rfl))
  rw [e] at key
  by_cases hc : g l k < 128
  · rw [p8_lt hc] at key
    by_cases h0 : 0 ≤ g l k
    · have ht : (u8 (g l k)).toNat = (g l k).toNat := by unfold u8; rw [UInt8.toNat_ofNat']; omega
      rcases key with h | h | h | h
      · rw [h] at ht; have : (43 : UInt8).toNat = 43 := rfl; omega
      · rw [h] at ht; have : (45 : UInt8).toNat = 45 := rfl; omega
      · rw [h] at ht; have : (46 : UInt8).toNat = 46 := rfl; omega
      · unfold Fx.isD at h; have := of_decide_eq_true h; omega
    · have : u8 (g l k) = 0 := by unfold u8; rw [show (g l k).toNat = 0 by omega]; rfl
      rw [this] at key
      exfalso; revert key; decide
  · rw [p8_ge hc] at key
    exfalso; revert key; decide

/-! ### the small tests -/
theorem at_lo {l : List Int} (h : ∀ c ∈ l, 0 ≤ c) (k : Nat) : -1 ≤ at' l k := by
  unfold at'
  split
  · rename_i hk
    rw [g_eq hk]
    have := h _ (List.getElem_mem hk)
    omega
  · omega
theorem at_neg {l : List Int} (h : ∀ c ∈ l, 0 ≤ c) {k : Nat} (hk : k < l.length) : 0 ≤ at' l k := by
  rw [at_in hk, g_eq hk]; exact h _ (List.getElem_mem hk)
/-- an escape, as the program asks for it -/
theorem esc_code {l : List Int} (h : ∀ c ∈ l, 0 ≤ c) (k : Nat) : esc l k = (decide (at' l k = 92) && (decide (at' l (k + 1) ≠ 10) && decide (at' l (k + 1) ≠ -1))) := by
  have := at_lo h (k + 1)
  unfold esc
  rw [Bool.eq_iff_iff]
  simp only [Bool.and_eq_true, decide_eq_true_eq]
  omega
theorem begs_code (l : List Int) (k : Nat) : begs l k = if at' l k = 45 then (decide (at' l (k + 1) = 45) || may l (k + 1)) else may l k := by
  unfold begs
  by_cases h : at' l k = 45
  · have hm : may l k = false := by
      unfold may esc
      rw [h]
      rfl
    rw [if_pos h, hm, decide_eq_true h, Bool.false_or, Bool.true_and, Bool.or_comm]
  · rw [if_neg h, decide_eq_false h, Bool.false_and, Bool.or_false]
theorem qq_far (l : List Int) (e : Int) {k : Nat} (hk : l.length ≤ k) : qq l e k = (6, [], l.length) := by
  rw [qq_end (by omega), show min (k + 1) l.length = l.length by omega]
theorem qq_clamp {l : List Int} {e : Int} {k : Nat} : qq l e k = qq l e (min k l.length) := by
  by_cases h : k ≤ l.length
  · rw [Nat.min_eq_left h]
  · rw [qq_far l e (by omega), Nat.min_eq_right (by omega), qq_far l e (Nat.le_refl _)]

/-! ### gaps -/
theorem sp_stop (l : List Int) : ∀ (m k : Nat) (b : Bool), l.length - k ≤ m → k ≤ l.length → whiB (at' l (sp l k b).1) = false ∧ opn l (sp l k b).1 = false
  | m, k, b, hm, hk => by
    cases hw : whiB (at' l k)
    · cases ho : opn l k
      · rw [sp_no hw ho]; exact ⟨hw, ho⟩
      · rw [sp_opn hw ho]
        have hc := cmt_le ho
        match m, hm with
        | 0, hm => omega
        | m + 1, hm => exact sp_stop l m _ b (by omega) hc.2
    · rw [sp_white hw]
      have := whi_lt hw
      match m, hm with
      | 0, hm => omega
      | m + 1, hm => exact sp_stop l m _ true (by omega) (by omega)
theorem sp_gt {l : List Int} {k : Nat} {b : Bool} (h : whiB (at' l k) = true ∨ opn l k = true) : k < (sp l k b).1 := by
  cases hw : whiB (at' l k)
  · rw [hw] at h
    have ho : opn l k = true := by
      rcases h with h | h
      · cases h
      · exact h
    rw [sp_opn hw ho]
    have hc := cmt_le ho
    have := sp_le l (cmt l k) b hc.2
    omega
  · rw [sp_white hw]
    have hlt := whi_lt hw
    have := sp_le l (k + 1) true (by omega)
    omega
/-- past a gap there is none -/
theorem sp_again {l : List Int} {k : Nat} (b c : Bool) (hk : k ≤ l.length) : sp l (sp l k b).1 c = ((sp l k b).1, c) := by
  have h := sp_stop l _ k b (Nat.le_refl _) hk
  exact sp_no h.1 h.2
/-- the tokens from a place on: what the gap there is, and what is behind it -/
theorem scan_gap {l : List Int} {k : Nat} (hk : k < l.length) : scan l k = spTok (sp l k false).2 ++ scan l (sp l k false).1 := by
  have h1 := sp_le l k false (by omega)
  have h2 := sp_again false false (show k ≤ l.length by omega)
  by_cases h : (sp l k false).1 < l.length
  · rw [scan_on hk h, List.append_assoc]
    congr 1
    have h3 := scan_on h (by rw [h2]; exact h)
    rw [h3, h2]; rfl
  · rw [scan_last hk h, scan_end h, List.append_nil]
theorem scan_tok {l : List Int} {k : Nat} (hk : k < l.length) (hw : whiB (at' l k) = false) (ho : opn l k = false) : scan l k = tokOf (nxt l k) :: scan l (nxt l k).2.2.2 := by
  have h := sp_no (b := false) hw ho
  have h2 := scan_on hk (by rw [h]; exact hk)
  rw [h2, h]; rfl
end Tk
end Go.Proofs.YtgcmjkimiakibaaGreatDoor

/-
  Plain words of tokens: hex digits, what an escape means. No run of the program in this text.
-/
namespace Go.Proofs.YtgcmjkimiakibaaGreatDoor
open Go.RowKit

namespace Tk
open Ru
theorem pow16 {m : Nat} (h : m ≤ 5) : (16 : Int) ^ m ≤ 1048576 := by
  rcases (show m = 0 ∨ m = 1 ∨ m = 2 ∨ m = 3 ∨ m = 4 ∨ m = 5 by omega) with rfl | rfl | rfl | rfl | rfl | rfl <;> decide
theorem hexR_yes {f : Nat} {l : List Int} {j : Nat} {n : Int} (h : 0 ≤ hexV (at' l j)) : hexR (f + 1) l j n = hexR f l (j + 1) (n * 16 + hexV (at' l j)) := by
  conv => lhs; unfold hexR
  rw [if_pos h]
theorem hexR_no {f : Nat} {l : List Int} {j : Nat} {n : Int} (h : ¬ 0 ≤ hexV (at' l j)) : hexR f l j n = (n, j) := by
  cases f with
  | zero => rfl
  | succ f => conv => lhs; unfold hexR
              rw [if_neg h]
theorem hexR_end {l : List Int} {j : Nat} {n : Int} : hexR 0 l j n = (n, j) := rfl
/-- the number and the place, out of where the digits end -/
def meantN (n : Int) : Int := if n = 0 ∨ isB n = false then 65533 else n
def meantK (l : List Int) (j : Nat) : Nat := if whiB (at' l j) = true then j + 1 else j
theorem meant_none {l : List Int} {k : Nat} {n : Int} (h : hexR 6 l (k + 1) 0 = (n, k + 1)) : meant l k = (g l (k + 1), k + 2) := by
  unfold meant; rw [h]; simp
theorem meant_some {l : List Int} {k j : Nat} {n : Int} (h : hexR 6 l (k + 1) 0 = (n, j)) (hj : j ≠ k + 1) : meant l k = (meantN n, meantK l j) := by
  unfold meant meantN meantK; rw [h]; simp [hj]
end Tk
end Go.Proofs.YtgcmjkimiakibaaGreatDoor

/-
  Plain words of tokens: characters are characters. No run of the program in this text.
-/
namespace Go.Proofs.YtgcmjkimiakibaaGreatDoor
namespace Tk
open Ru
/-- each is a character -/
def Chr (l : List Int) : Prop := ∀ c ∈ l, 0 ≤ c ∧ c ≤ 1114111
theorem Chr.pos {l : List Int} (h : Chr l) : ∀ c ∈ l, 0 ≤ c := fun c hc => (h c hc).1
theorem Chr.g {l : List Int} (h : Chr l) {k : Nat} (hk : k < l.length) : 0 ≤ g l k ∧ g l k ≤ 1114111 := by
  rw [g_eq hk]; exact h _ (List.getElem_mem hk)
theorem Chr.at_ {l : List Int} (h : Chr l) (k : Nat) : -1 ≤ at' l k ∧ at' l k ≤ 1114111 := by
  by_cases hk : k < l.length
  · rw [at_in hk]; have := h.g hk; omega
  · rw [at_out hk]; omega
theorem isB_le {c : Int} (h : isB c = true) : 0 ≤ c ∧ c ≤ 1114111 := by
  unfold isB at h
  have := of_decide_eq_true h
  omega
theorem Chr.meant_ {l : List Int} (h : Chr l) {k : Nat} (he : esc l k = true) : 0 ≤ (meant l k).1 ∧ (meant l k).1 ≤ 1114111 := by
  have hk := (esc_lt he).1
  unfold meant
  split
  · exact h.g hk
  · simp only
    split
    · omega
    · rename_i h2
      have hb : isB (hexR 6 l (k + 1) 0).1 = true := by
        cases hb : isB (hexR 6 l (k + 1) 0).1
        · exact absurd (.inr hb) h2
        · rfl
      exact isB_le hb
end Tk
/-- where the scanner at block g stands -/
def posOf (w : World) (b : Nat) : Nat := match w.cell? ⟨b, 1, none⟩ with
  | some (.int _ n) => n.toNat
  | _ => 0
end Go.Proofs.YtgcmjkimiakibaaGreatDoor

/-
  Plain: names, comments and spaces side by side. No run of the program in this text.
-/
namespace Go.Proofs.YtgcmjkimiakibaaGreatDoor
namespace Ru
/-- a byte that is read as itself -/
def Asc (c : Int) : Prop := 0 < c ∧ c < 128 ∧ c ≠ 12 ∧ c ≠ 13
theorem rd_one {c : Int} (h : Asc c) (x : List Int) : rd (c :: x) = c :: rd x := by
  obtain ⟨h0, h1, h2, h3⟩ := h
  have he := enc_one (c := c) (by omega) (by omega) (c :: x).length (g (c :: x) 1) (g (c :: x) 2) (g (c :: x) 3)
  have hc : chL (c :: x) = c := he.1
  have hw : wdL (c :: x) = 1 := by unfold wdL; rw [show g (c :: x) 0 = c from rfl, he.2]; rfl
  have hs : st (c :: x) = 1 := by unfold st; rw [if_neg (by rw [hc]; omega), hw]
  rw [rd_cons (by simp), hc, hs]
  have hp : plain c = c := by unfold plain; rw [if_neg (by omega), if_neg (by omega)]
  rw [hp]; rfl
theorem rd_asc : ∀ (a : List Int), (∀ c ∈ a, Asc c) → ∀ x, rd (a ++ x) = a ++ rd x
  | [], _, x => rfl
  | c :: a, h, x => by
    rw [List.cons_append, rd_one (h c (by simp)), rd_asc a (fun d hd => h d (by simp [hd]))]; rfl
theorem ch_42 {n a b c d : Int} (_ha : 0 ≤ a) (h : ch n a b c d = 42) : a = 42 := by
  unfold ch at h
  split at h
  · exact h
  · split at h
    · rename_i h1 h2
      have := (val_is (by omega) h2.1 h2.2).1
      omega
    · omega
theorem rd_no42 : ∀ (f : Nat) (l : List Int), l.length ≤ f → By l → 42 ∉ l → 42 ∉ rd l
  | f, [], _, _, _ => by rw [rd_nil]; simp
  | 0, a :: l, hf, _, _ => by simp at hf
  | f + 1, a :: l, hf, hb, hn => by
    have hs := st_le (l := a :: l) (by simp)
    rw [rd_cons (by simp), List.mem_cons]
    rintro (h | h)
    · have hp : chL (a :: l) = 42 := by
        unfold plain at h
        split at h
        · omega
        · split at h
          · omega
          · exact h.symm
      have := ch_42 (hb.at_ 0).1 hp
      exact hn (by rw [show g (a :: l) 0 = a from rfl] at this; rw [this]; simp)
    · refine rd_no42 f _ ?_ (hb.drop _) (fun hm => hn (List.mem_of_mem_drop hm)) h
      rw [List.length_drop]; simp at hf ⊢; omega
theorem rd_before {c : Int} (h : Asc c) (h10 : c ≠ 10) (a x : List Int) : rd (a ++ c :: x) = rd a ++ c :: rd x := by
  rw [rd_parts (c :: x) (by simp) (by rw [show g (c :: x) 0 = c from rfl]; exact h.2.1) (by rw [show g (c :: x) 0 = c from rfl]; exact h10) a.length a (Nat.le_refl _), rd_one h]
/-- small letters are written as themselves -/
theorem wr_asc : ∀ (a : List Int), (∀ c ∈ a, 0 ≤ c ∧ c ≤ 127) → wr a = a
  | [], _ => rfl
  | c :: a, h => by
    have e : wr (c :: a) = Lib.encodeRuneZ c ++ wr a := rfl
    rw [e, wr_asc a (fun d hd => h d (by simp [hd])), Lib.encodeRuneZ_one (h c (by simp)).1 (h c (by simp)).2]; rfl
end Ru
namespace Tk
open Ru
theorem at_app (pre : List Int) (c : Int) (post : List Int) : at' (pre ++ c :: post) pre.length = c := by
  rw [at_in (by simp)]
  unfold g
  rw [List.getD_eq_getElem?_getD, List.getElem?_append_right (Nat.le_refl _)]
  simp
theorem at_end (pre : List Int) : at' pre pre.length = -1 := at_out (by omega)
theorem app_more (pre : List Int) (c : Int) (post : List Int) : pre ++ c :: post = (pre ++ [c]) ++ post := by simp
theorem at_app1 (pre : List Int) (c d : Int) (post : List Int) : at' (pre ++ c :: d :: post) (pre.length + 1) = d := by
  have := at_app (pre ++ [c]) d post
  rw [List.length_append] at this
  rw [app_more pre c]
  exact this
/-- a name's characters, side by side -/
theorem name_app : ∀ (nm pre post : List Int), (∀ c ∈ nm, witB c = true ∧ c ≠ 92) → inN (pre ++ (nm ++ post)) (pre.length + nm.length) = false → name (pre ++ (nm ++ post)) pre.length = (nm, pre.length + nm.length)
  | [], pre, post, _, he => by
    have he' : inN (pre ++ ([] ++ post)) pre.length = false := he
    rw [name_no he']; rfl
  | c :: nm, pre, post, h, he => by
    obtain ⟨hw, h92⟩ := h c (by simp)
    have ha : at' (pre ++ (c :: nm ++ post)) pre.length = c := at_app pre c (nm ++ post)
    have hin : inN (pre ++ (c :: nm ++ post)) pre.length = true := by unfold inN; rw [ha, hw, Bool.or_true]
    have ho : oneN (pre ++ (c :: nm ++ post)) pre.length = (c, pre.length + 1) := by unfold oneN; rw [ha, if_neg h92]
    have e : pre ++ (c :: nm ++ post) = (pre ++ [c]) ++ (nm ++ post) := by simp
    have el : (pre ++ [c]).length = pre.length + 1 := by simp
    have ih := name_app nm (pre ++ [c]) post (fun d hd => h d (by simp [hd])) (by
      rw [← e, el]
      rw [show pre.length + 1 + nm.length = pre.length + (c :: nm).length by simp; omega]
      exact he)
    rw [el, ← e] at ih
    rw [name_yes hin, ho]
    simp only
    rw [ih]
    simp; omega
/-- what no name goes on with -/
theorem inN_stop {pre : List Int} {c : Int} {post : List Int} (hw : witB c = false) (h92 : c ≠ 92) : inN (pre ++ c :: post) pre.length = false := by
  unfold inN esc
  rw [at_app, hw, Bool.or_false]
  apply decide_eq_false
  intro h
  exact h92 h.1
theorem inN_end (pre : List Int) : inN pre pre.length = false := by
  unfold inN esc
  rw [at_end]; rfl
/-- small letters -/
def Low (nm : List Int) : Prop := nm ≠ [] ∧ ∀ c ∈ nm, 97 ≤ c ∧ c ≤ 122
theorem Low.wit {nm : List Int} (h : Low nm) : ∀ c ∈ nm, witB c = true ∧ c ≠ 92 := fun c hc => by
  have := h.2 c hc
  refine ⟨?_, by omega⟩
  unfold witB begB
  simp only [Bool.or_eq_true, decide_eq_true_eq]
  omega
theorem ident_low {pre nm post : List Int} (h : Low nm) (hs : inN (pre ++ (nm ++ post)) (pre.length + nm.length) = false) (h40 : at' (pre ++ (nm ++ post)) (pre.length + nm.length) ≠ 40) :
    nxt (pre ++ (nm ++ post)) pre.length = (2, str nm, 0, pre.length + nm.length) := by
  have hn := name_app nm pre post h.wit hs
  obtain ⟨c, r, rfl⟩ : ∃ c r, nm = c :: r := by
    cases nm with
    | nil => exact absurd rfl h.1
    | cons c r => exact ⟨c, r, rfl⟩
  have hc := h.2 c (by simp)
  have hlt : pre.length < (pre ++ (c :: r ++ post)).length := by simp
  have ha : at' (pre ++ (c :: r ++ post)) pre.length = c := at_app pre c (r ++ post)
  have hg : g (pre ++ (c :: r ++ post)) pre.length = c := by rw [← at_in hlt]; exact ha
  have hb : begs (pre ++ (c :: r ++ post)) pre.length = true := by
    unfold begs may
    rw [ha]
    have : begB c = true := by unfold begB; simp only [decide_eq_true_eq]; omega
    rw [this]; rfl
  have hnum : numB c = false := by unfold numB; apply decide_eq_false; omega
  unfold nxt
  rw [hg, if_neg (by omega), if_neg (by omega), if_neg (by rw [hnum]; simp)]
  unfold rest
  rw [hg, if_neg (by omega), if_pos hb, hn]
  simp only
  rw [if_neg h40]
/-- no gap stands where a name or a sign stands -/
theorem no_gap {l : List Int} {k : Nat} {c : Int} (ha : at' l k = c) (h : c ≠ 9 ∧ c ≠ 10 ∧ c ≠ 32 ∧ c ≠ 47) : whiB (at' l k) = false ∧ opn l k = false := by
  rw [ha]
  constructor
  · unfold whiB; apply decide_eq_false; omega
  · unfold opn; rw [ha]; apply decide_eq_false; omega
theorem cmtE_app : ∀ (rc pre post : List Int), (∀ c ∈ rc, c ≠ 42) → cmtE (pre ++ (rc ++ 42 :: 47 :: post)) pre.length = pre.length + rc.length
  | [], pre, post, _ => by
    rw [cmtE_no]
    · rfl
    · intro h
      apply h.2
      refine ⟨?_, ?_⟩
      · rw [← at_in h.1]; exact at_app pre 42 (47 :: post)
      · exact at_app1 pre 42 47 post
  | c :: rc, pre, post, h => by
    have e : pre ++ (c :: rc ++ 42 :: 47 :: post) = (pre ++ [c]) ++ (rc ++ 42 :: 47 :: post) := by simp
    have el : (pre ++ [c]).length = pre.length + 1 := by simp
    have ih := cmtE_app rc (pre ++ [c]) post (fun d hd => h d (by simp [hd]))
    rw [el, ← e] at ih
    rw [cmtE_yes]
    · rw [ih]; simp; omega
    · refine ⟨by simp, fun hh => ?_⟩
      have : at' (pre ++ (c :: rc ++ 42 :: 47 :: post)) pre.length = c := at_app pre c _
      rw [at_in (by simp)] at this
      exact h c (by simp) (by rw [← this]; exact hh.1)
/-- a comment in a gap -/
theorem sp_cmt {rc pre post : List Int} {b : Bool} (h : ∀ c ∈ rc, c ≠ 42) : sp (pre ++ (47 :: 42 :: rc ++ 42 :: 47 :: post)) pre.length b = sp (pre ++ (47 :: 42 :: rc ++ 42 :: 47 :: post)) (pre.length + (rc.length + 4)) b := by
  have a0 : at' (pre ++ (47 :: 42 :: rc ++ 42 :: 47 :: post)) pre.length = 47 := at_app pre 47 _
  have a1 : at' (pre ++ (47 :: 42 :: rc ++ 42 :: 47 :: post)) (pre.length + 1) = 42 := at_app1 pre 47 42 _
  have hw : whiB (at' (pre ++ (47 :: 42 :: rc ++ 42 :: 47 :: post)) pre.length) = false := by rw [a0]; rfl
  have ho : opn (pre ++ (47 :: 42 :: rc ++ 42 :: 47 :: post)) pre.length = true := by unfold opn; rw [a0, a1]; rfl
  rw [sp_opn hw ho]
  have e : pre ++ (47 :: 42 :: rc ++ 42 :: 47 :: post) = (pre ++ [47, 42]) ++ (rc ++ 42 :: 47 :: post) := by simp
  have hc := cmtE_app rc (pre ++ [47, 42]) post h
  have el : (pre ++ ([47, 42] : List Int)).length = pre.length + 2 := by simp
  rw [← e, el] at hc
  have : cmt (pre ++ (47 :: 42 :: rc ++ 42 :: 47 :: post)) pre.length = pre.length + (rc.length + 4) := by
    unfold cmt
    rw [hc]
    simp
    omega
  rw [this]
end Tk
end Go.Proofs.YtgcmjkimiakibaaGreatDoor

/-
  Plain: the tokens that TokenNames asks for. No run of the program in this text.
-/
namespace Go.Proofs.YtgcmjkimiakibaaGreatDoor
namespace Tk
open Ru
/-- a letter, a digit, a - or a _ -/
def NmC (c : Int) : Prop := (97 ≤ c ∧ c ≤ 122) ∨ (65 ≤ c ∧ c ≤ 90) ∨ (48 ≤ c ∧ c ≤ 57) ∨ c = 45 ∨ c = 95
def LtC (c : Int) : Prop := (97 ≤ c ∧ c ≤ 122) ∨ (65 ≤ c ∧ c ≤ 90)
/-- a name, its first character a letter -/
def Wd (nm : List Int) : Prop := (∃ c r, nm = c :: r ∧ LtC c) ∧ ∀ c ∈ nm, NmC c
theorem Wd.wit {nm : List Int} (h : Wd nm) : ∀ c ∈ nm, witB c = true ∧ c ≠ 92 := fun c hc => by
  have := h.2 c hc
  unfold NmC at this
  refine ⟨?_, by omega⟩
  unfold witB begB
  simp only [Bool.or_eq_true, decide_eq_true_eq]
  omega
theorem Wd.asc {nm : List Int} (h : Wd nm) : ∀ c ∈ nm, Asc c := fun c hc => by
  have := h.2 c hc
  unfold NmC at this
  unfold Asc; omega
theorem begs_let {l : List Int} {k : Nat} {c : Int} (ha : at' l k = c) (h : LtC c) : begs l k = true := by
  unfold LtC at h
  unfold begs may
  rw [ha]
  have : begB c = true := by unfold begB; simp only [decide_eq_true_eq]; omega
  rw [this]; rfl
/-- a name where it begins: with a ( behind, or not -/
theorem word_wd {pre nm post : List Int} (h : Wd nm) (hs : inN (pre ++ (nm ++ post)) (pre.length + nm.length) = false) :
    nxt (pre ++ (nm ++ post)) pre.length = (if at' (pre ++ (nm ++ post)) (pre.length + nm.length) = 40 then (3, str nm, 0, pre.length + nm.length + 1) else (2, str nm, 0, pre.length + nm.length)) := by
  have hn := name_app nm pre post h.wit hs
  obtain ⟨⟨c, r, rfl, hc⟩, _⟩ := h
  have hlt : pre.length < (pre ++ (c :: r ++ post)).length := by simp
  have ha : at' (pre ++ (c :: r ++ post)) pre.length = c := at_app pre c (r ++ post)
  have hg : g (pre ++ (c :: r ++ post)) pre.length = c := by rw [← at_in hlt]; exact ha
  have hb := begs_let ha hc
  unfold LtC at hc
  have hnum : numB c = false := by unfold numB; apply decide_eq_false; omega
  unfold nxt
  rw [hg, if_neg (by omega), if_neg (by omega), if_neg (by rw [hnum]; simp)]
  unfold rest
  rw [hg, if_neg (by omega), if_pos hb, hn]
theorem scan_whole {l : List Int} {r : Int × ByteArray × Int × Nat} (hl : 0 < l.length) (hw : whiB (at' l 0) = false) (ho : opn l 0 = false) (hn : nxt l 0 = r) (he : l.length ≤ r.2.2.2) : scan l 0 = [tokOf r] := by
  rw [scan_tok hl hw ho, hn, scan_end (by omega)]
theorem wd_pos {nm : List Int} (h : Wd nm) : 0 < nm.length := by
  obtain ⟨⟨c, r, rfl, _⟩, _⟩ := h
  simp
theorem wd_gap {nm post : List Int} (h : Wd nm) : whiB (at' (nm ++ post) 0) = false ∧ opn (nm ++ post) 0 = false := by
  obtain ⟨⟨c, r, rfl, hc⟩, _⟩ := h
  unfold LtC at hc
  exact no_gap (at_app [] c (r ++ post)) (by omega)
/-- the name alone -/
theorem scan_n1 {nm : List Int} (h : Wd nm) : scan nm 0 = [(2, str nm, 0)] := by
  have hx := word_wd (pre := []) (post := []) h (by simp only [List.nil_append, List.append_nil, List.length_nil, Nat.zero_add]; exact inN_end nm)
  simp only [List.nil_append, List.append_nil, List.length_nil, Nat.zero_add] at hx
  rw [at_end, if_neg (by decide)] at hx
  have hg := wd_gap (post := []) h
  rw [List.append_nil] at hg
  exact scan_whole (wd_pos h) hg.1 hg.2 hx (Nat.le_refl _)
/-- with a bracket behind -/
theorem scan_n4 {nm : List Int} (h : Wd nm) : scan (nm ++ [40]) 0 = [(3, str nm, 0)] := by
  have hx := word_wd (pre := []) (post := [40]) h (by simp only [List.nil_append, List.length_nil, Nat.zero_add]; exact inN_stop rfl (by decide))
  simp only [List.nil_append, List.length_nil, Nat.zero_add] at hx
  rw [at_app, if_pos rfl] at hx
  have hg := wd_gap (post := [40]) h
  exact scan_whole (by simp) hg.1 hg.2 hx (by simp)
/-- with an @ ahead -/
theorem scan_n2 {nm : List Int} (h : Wd nm) : scan (64 :: nm) 0 = [(4, str nm, 0)] := by
  have hn := name_app nm [64] [] h.wit (by rw [List.append_nil]; have := inN_end (64 :: nm); rw [List.length_cons] at this; rw [show [(64 : Int)].length + nm.length = nm.length + 1 by simp; omega]; exact this)
  rw [List.append_nil] at hn
  have e : ([64] : List Int) ++ nm = 64 :: nm := rfl
  have e1 : ([64] : List Int).length = 1 := rfl
  rw [e, e1] at hn
  have hb : begs (64 :: nm) 1 = true := by
    obtain ⟨⟨c, r, rfl, hc⟩, _⟩ := h
    exact begs_let (at_app [64] c r) hc
  have hx : nxt (64 :: nm) 0 = (4, str nm, 0, 1 + nm.length) := by
    have hg : g (64 :: nm) 0 = 64 := rfl
    unfold nxt
    rw [hg, if_neg (by omega), if_neg (by omega), if_neg (by rw [show numB 64 = false from rfl]; simp)]
    unfold rest
    rw [hg, if_pos ⟨rfl, hb⟩, hn]
  have hgap := no_gap (l := 64 :: nm) (k := 0) (c := 64) (at_app [] 64 nm) (by omega)
  exact scan_whole (by simp) hgap.1 hgap.2 hx (by simp; omega)
/-- with a # ahead -/
theorem scan_n3 {nm : List Int} (h : Wd nm) : scan (35 :: nm) 0 = [(5, str nm, 0)] := by
  have hn := name_app nm [35] [] h.wit (by rw [List.append_nil]; have := inN_end (35 :: nm); rw [List.length_cons] at this; rw [show [(35 : Int)].length + nm.length = nm.length + 1 by simp; omega]; exact this)
  rw [List.append_nil] at hn
  have e : ([35] : List Int) ++ nm = 35 :: nm := rfl
  have e1 : ([35] : List Int).length = 1 := rfl
  rw [e, e1] at hn
  have hb : witB (at' (35 :: nm) 1) = true := by
    obtain ⟨⟨c, r, rfl, hc⟩, hall⟩ := h
    have : at' (35 :: c :: r) 1 = c := at_app [35] c r
    rw [this]
    exact (Wd.wit ⟨⟨c, r, rfl, hc⟩, hall⟩ c (by simp)).1
  have hx : nxt (35 :: nm) 0 = (5, str nm, 0, 1 + nm.length) := by
    have hg : g (35 :: nm) 0 = 35 := rfl
    unfold nxt
    rw [hg, if_neg (by omega), if_pos ⟨rfl, .inl hb⟩, hn]
  have hgap := no_gap (l := 35 :: nm) (k := 0) (c := 35) (at_app [] 35 nm) (by omega)
  exact scan_whole (by simp) hgap.1 hgap.2 hx (by simp; omega)
/-- a hex digit -/
def hx (d : Int) : Int := if d < 10 then 48 + d else 87 + d
theorem hexV_hx {d : Int} (h0 : 0 ≤ d) (h1 : d ≤ 15) : hexV (hx d) = d := by
  unfold hexV hx; omega
/-- a character, escaped by its number -/
def esc4 (c : Int) : List Int := [92, hx (c / 16), hx (c % 16), 32]
def escs (nm : List Int) : List Int := nm.flatMap esc4
theorem escs_cons (c : Int) (nm : List Int) : escs (c :: nm) = 92 :: hx (c / 16) :: hx (c % 16) :: 32 :: escs nm := rfl
theorem escs_len (nm : List Int) : (escs nm).length = 4 * nm.length := by
  induction nm with
  | nil => rfl
  | cons c r ih => rw [escs_cons]; simp [ih]; omega
theorem escs_asc {nm : List Int} (h : ∀ c ∈ nm, NmC c) : ∀ x ∈ escs nm, Asc x := by
  induction nm with
  | nil => intro x hx; cases hx
  | cons c r ih =>
    have hc := h c (by simp)
    unfold NmC at hc
    intro x hm
    rw [escs_cons] at hm
    simp only [List.mem_cons] at hm
    rcases hm with rfl | rfl | rfl | rfl | hm
    · unfold Asc; omega
    · unfold Asc hx; omega
    · unfold Asc hx; omega
    · unfold Asc; omega
    · exact ih (fun d hd => h d (by simp [hd])) x hm
/-- one such escape -/
theorem esc_one {pre post : List Int} {c : Int} (h : NmC c) : esc (pre ++ 92 :: hx (c / 16) :: hx (c % 16) :: 32 :: post) pre.length = true ∧ meant (pre ++ 92 :: hx (c / 16) :: hx (c % 16) :: 32 :: post) pre.length = (c, pre.length + 4) := by
  unfold NmC at h
  have a0 := at_app pre 92 (hx (c / 16) :: hx (c % 16) :: 32 :: post)
  have a1 := at_app1 pre 92 (hx (c / 16)) (hx (c % 16) :: 32 :: post)
  have a2 : at' (pre ++ 92 :: hx (c / 16) :: hx (c % 16) :: 32 :: post) (pre.length + 1 + 1) = hx (c % 16) := by
    have := at_app1 (pre ++ [92]) (hx (c / 16)) (hx (c % 16)) (32 :: post)
    rw [List.length_append] at this
    simpa using this
  have a3 : at' (pre ++ 92 :: hx (c / 16) :: hx (c % 16) :: 32 :: post) (pre.length + 1 + 1 + 1) = 32 := by
    have := at_app1 (pre ++ [92, hx (c / 16)]) (hx (c % 16)) 32 post
    rw [List.length_append] at this
    simpa using this
  have v1 : hexV (hx (c / 16)) = c / 16 := hexV_hx (by omega) (by omega)
  have v2 : hexV (hx (c % 16)) = c % 16 := hexV_hx (by omega) (by omega)
  have v3 : hexV 32 = -1 := by decide
  have r6 : hexR 6 (pre ++ 92 :: hx (c / 16) :: hx (c % 16) :: 32 :: post) (pre.length + 1) 0 = (c, pre.length + 1 + 1 + 1) := by
    rw [hexR_yes (by rw [a1, v1]; omega), hexR_yes (by rw [a2, v2]; omega), hexR_no (by rw [a3, v3]; omega), a1, v1, a2, v2]
    congr 1
    omega
  constructor
  · unfold esc
    apply decide_eq_true
    rw [a0, a1]
    unfold hx
    refine ⟨rfl, ?_, ?_⟩
    · omega
    · omega
  · rw [meant_some r6 (by omega)]
    have e1 : meantN c = c := by
      unfold meantN
      rw [if_neg]
      rintro (e | e)
      · omega
      · unfold isB at e
        have := of_decide_eq_false e
        omega
    have e2 : meantK (pre ++ 92 :: hx (c / 16) :: hx (c % 16) :: 32 :: post) (pre.length + 1 + 1 + 1) = pre.length + 4 := by
      unfold meantK
      rw [a3, if_pos (show whiB 32 = true from rfl)]
    rw [e1, e2]
theorem name_escs : ∀ (nm pre : List Int), (∀ c ∈ nm, NmC c) → name (pre ++ escs nm) pre.length = (nm, pre.length + 4 * nm.length)
  | [], pre, _ => by
    have e : pre ++ escs [] = pre := by unfold escs; simp
    rw [e, name_no (inN_end pre)]; rfl
  | c :: nm, pre, h => by
    obtain ⟨h1, h2⟩ := esc_one (pre := pre) (post := escs nm) (h c (by simp))
    rw [escs_cons]
    have hin : inN (pre ++ 92 :: hx (c / 16) :: hx (c % 16) :: 32 :: escs nm) pre.length = true := by unfold inN; rw [h1]; rfl
    have ho : oneN (pre ++ 92 :: hx (c / 16) :: hx (c % 16) :: 32 :: escs nm) pre.length = (c, pre.length + 4) := by
      unfold oneN; rw [at_app, if_pos rfl, h2]
    have e : pre ++ 92 :: hx (c / 16) :: hx (c % 16) :: 32 :: escs nm = (pre ++ [92, hx (c / 16), hx (c % 16), 32]) ++ escs nm := by simp
    have el : (pre ++ [92, hx (c / 16), hx (c % 16), 32]).length = pre.length + 4 := by simp
    have ih := name_escs nm (pre ++ [92, hx (c / 16), hx (c % 16), 32]) (fun d hd => h d (by simp [hd]))
    rw [el, ← e] at ih
    rw [name_yes hin, ho]
    simp only
    rw [ih]
    simp; omega
/-- escaped by its characters' numbers -/
theorem scan_n5 {nm : List Int} (h : Wd nm) : scan (escs nm) 0 = [(2, str nm, 0)] := by
  have hn := name_escs nm [] h.2
  simp only [List.nil_append, List.length_nil, Nat.zero_add] at hn
  have hpos := wd_pos h
  have hlen := escs_len nm
  have hend : at' (escs nm) (4 * nm.length) = -1 := at_out (by omega)
  obtain ⟨⟨c, r, hcr, hc⟩, hall⟩ := h
  have h1 : esc (escs nm) 0 = true := by
    rw [hcr, escs_cons]
    exact (esc_one (pre := []) (post := escs r) (hall c (by rw [hcr]; simp))).1
  have hg : g (escs nm) 0 = 92 := by rw [hcr]; rfl
  have hat : at' (escs nm) 0 = 92 := by rw [at_in (by omega), hg]
  have hb : begs (escs nm) 0 = true := by unfold begs may; rw [h1, Bool.or_true]; rfl
  have hxx : nxt (escs nm) 0 = (2, str nm, 0, 4 * nm.length) := by
    unfold nxt
    rw [hg, if_neg (by omega), if_neg (by omega), if_neg (by rw [show numB 92 = false from rfl]; simp)]
    unfold rest
    rw [hg, if_neg (by omega), if_pos hb, hn]
    simp only
    rw [hend, if_neg (by decide)]
  have hgap := no_gap hat (by omega)
  exact scan_whole (by omega) hgap.1 hgap.2 hxx (by rw [hlen]; exact Nat.le_refl _)
/-- each is read as itself -/
theorem rd_self {l : List Int} (h : ∀ c ∈ l, Asc c) : rd l = l := by
  have := rd_asc l h []
  rwa [List.append_nil, rd_nil, List.append_nil] at this
end Tk
end Go.Proofs.YtgcmjkimiakibaaGreatDoor

/-
  Numbers that are stopped: plain words.
-/
namespace Go.Proofs.YtgcmjkimiakibaaGreatDoor
open Go.RowKit

namespace Fx
/-- a number, stopped -/
def stop (n : Int) : Int := max (-1099511627776) (min n 1099511627776)
theorem stop_lo (n : Int) : -1099511627776 ≤ stop n := by unfold stop; omega
theorem stop_hi (n : Int) : stop n ≤ 1099511627776 := by unfold stop; omega
theorem stop_id {n : Int} (h1 : -1099511627776 ≤ n) (h2 : n ≤ 1099511627776) : stop n = n := by unfold stop; omega
theorem stop_stop (n : Int) : stop (stop n) = stop n := stop_id (stop_lo n) (stop_hi n)
end Fx
end Go.Proofs.YtgcmjkimiakibaaGreatDoor

/-
  Plain: the text of a number. No run of the program in this text.
-/
namespace Go.Proofs.YtgcmjkimiakibaaGreatDoor
open Go.RowKit

namespace Fx
/-- the three digits behind the point, without noughts at the end -/
def frac (r : Nat) : List UInt8 := Lib.trimRightB ((Lib.decDigits (1000 + r)).drop 1) 48
/-- a number's text, of its sign and its thousandths -/
def textOf (neg : Bool) (m : Nat) : List UInt8 := (if neg then [45] else []) ++ Lib.decDigits (m / 1000) ++ (if m % 1000 = 0 then [] else 46 :: frac (m % 1000))
def text (n : Int) : List UInt8 := textOf (decide (stop n < 0)) (stop n).natAbs
end Fx
end Go.Proofs.YtgcmjkimiakibaaGreatDoor
