/-
  Plain mathematics: the longest decimal with which a text begins is one, and no longer beginning is.
-/
import Derived.Test.YtaofkaehhikfaaaGal
import Derived.Test.YtaofkaehhikfaaaGac
import Derived.Test.YtaofkaehhikfaaaGaa
import Derived.Laws.NewBlocks
import Derived.Test.YtaofkaehhikfaaaGad
import Derived.Laws.BytesArg
import Derived.Laws.IdiomStrings
import Derived.LoopTactic
set_option maxHeartbeats 16000000
set_option maxRecDepth 100000
namespace Go.Proofs.Ytaofkaehhikfaaa
namespace Fx
theorem at_take (l : List UInt8) {k i : Nat} (h : i < k) : at' (l.take k) i = at' l i := by
 unfold at'; rw [List.getD_eq_getElem?_getD, List.getD_eq_getElem?_getD, List.getElem?_take_of_lt h]
theorem at_take_past (l : List UInt8) {k i : Nat} (h : k <= i) : at' (l.take k) i = 0 := by
 apply at_zero; rw [List.length_take]; omega
theorem sgn_take (l : List UInt8) {k i : Nat} (h : i < k) : sgn (l.take k) i = sgn l i := by
 unfold sgn; rw [at_take l h]
theorem sgn_take_past (l : List UInt8) {k i : Nat} (h : k <= i) : sgn (l.take k) i = i := by
 unfold sgn; rw [at_take_past l h]; exact if_neg (by decide)
theorem dig_past {l : List UInt8} {a : Nat} (h : l.length <= a) : dig l a = a := dig_no l a (by rw [at_zero (by omega)]; exact isD_zero)
theorem dig_take (l : List UInt8) (k : Nat) : ∀ n a, n = k - a -> a <= k -> dig (l.take k) a = min (dig l a) k := by
 intro n
 induction n with
 | zero =>
   intro a hn ha
   have h0 : a = k := by omega
   subst h0
   rw [dig_past (by rw [List.length_take]; omega)]
   have := dig_lo l a; omega
 | succ n ih =>
   intro a hn ha
   have hlt : a < k := by omega
   cases hd : isD (at' l a)
   ·rw [dig_no (l.take k) a (by rw [at_take l hlt]; exact hd), dig_no l a hd]; omega
   ·rw [dig_yes (l.take k) a (by rw [at_take l hlt]; exact hd), dig_yes l a hd]
    exact ih (a + 1) (by omega) (by omega)
theorem dig_take' (l : List UInt8) {k a : Nat} (h : a <= k) : dig (l.take k) a = min (dig l a) k := dig_take l k _ a rfl h
theorem len_take {l : List UInt8} {k : Nat} (h : k <= l.length) : (l.take k).length = k := by rw [List.length_take]; omega
theorem spS_take (l : List UInt8) {k : Nat} (h : 0 < k) : spS (l.take k) = spS l := sgn_take l h
theorem spW_take (l : List UInt8) {k : Nat} (h : 0 < k) : spW (l.take k) = min (spW l) k := by
 have h1 := spS_one l
 have e : spW (l.take k) = dig (l.take k) (spS (l.take k)) := rfl
 rw [e, spS_take l h, dig_take' l (by omega)]; rfl
theorem len_pos {l : List UInt8} (h : spD l ≠ spS l) : len l = spE l := by unfold len; rw [if_neg h]
theorem spDof_is (l : List UInt8) (w : Nat) : (at' l w = 46 /\ w + 1 < dig l (w + 1) /\ spDof l w = dig l (w + 1)) ∨ (¬ (at' l w = 46 /\ w + 1 < dig l (w + 1)) /\ spDof l w = w) := by
 unfold spDof
 by_cases h : at' l w = 46 /\ w + 1 < dig l (w + 1)
 ·rw [if_pos h]; exact Or.inl ⟨h.1, h.2, rfl⟩
 ·rw [if_neg h]; exact Or.inr ⟨h, rfl⟩
theorem spEof_is (l : List UInt8) (d : Nat) : ((at' l d = 101 ∨ at' l d = 69) /\ sgn l (d + 1) < dig l (sgn l (d + 1)) /\ spEof l d = dig l (sgn l (d + 1))) ∨ (¬ ((at' l d = 101 ∨ at' l d = 69) /\ sgn l (d + 1) < dig l (sgn l (d + 1))) /\ spEof l d = d) := by
 unfold spEof
 by_cases h : (at' l d = 101 ∨ at' l d = 69) /\ sgn l (d + 1) < dig l (sgn l (d + 1))
 ·rw [if_pos h]; exact Or.inl ⟨h.1, h.2, rfl⟩
 ·rw [if_neg h]; exact Or.inr ⟨h, rfl⟩
theorem begins_no {l : List UInt8} {k : Nat} (hk : k <= l.length) (hl : len l < k) : isDec (l.take k) = false := by
 cases hd : isDec (l.take k)
 ·rfl
 exfalso
 obtain ⟨hn, hE⟩ := isDec_of hd
 rw [len_take hk] at hE
 have k0 : 0 < k := by omega
 have eS := spS_take l k0
 have eW := spW_take l k0
 have l1 := spW_lo l
 have l2 := spD_lo l
 have l3 := spE_lo l
 have s1 := spS_one l
 rw [eS] at hn
 have fin : spD l ≠ spS l -> spE l < k := fun h => by rw [len_pos h] at hl; exact hl
 have dD : spD (l.take k) = spDof (l.take k) (spW (l.take k)) := rfl
 have dE : spE (l.take k) = spEof (l.take k) (spD (l.take k)) := rfl
 by_cases hW : k <= spW l
 ·rw [show min (spW l) k = k by omega] at eW
  rw [eW] at dD
  have e1 : spDof (l.take k) k = k := by
   rcases spDof_is (l.take k) k with ⟨h, _⟩ | ⟨_, h⟩
   ·rw [at_take_past l (Nat.le_refl _)] at h; exact absurd h (by decide)
   ·exact h
  have : spD l ≠ spS l := by omega
  have := fin this
  omega
 ·rw [show min (spW l) k = spW l by omega] at eW
  rw [eW] at dD
  -- the part behind the point
  have hcase : (spD (l.take k) = k /\ k <= spD l) ∨ (spD (l.take k) = spD l /\ spD l < k) ∨ (spD (l.take k) = spW l /\ at' l (spW l) = 46) := by
   have d0 : spD l = spDof l (spW l) := rfl
   rcases spDof_is (l.take k) (spW l) with ⟨a1, a2, a3⟩ | ⟨a1, a2⟩
   ·rw [at_take l (by omega)] at a1
    rw [dig_take' l (by omega)] at a2 a3
    rcases spDof_is l (spW l) with ⟨_, b2, b3⟩ | ⟨b1, _⟩
    ·by_cases hg : k <= dig l (spW l + 1)
     ·left; omega
     ·right; left; omega
    ·exact absurd ⟨a1, by omega⟩ b1
   ·by_cases a46 : at' l (spW l) = 46
    ·right; right; exact ⟨by omega, a46⟩
    ·right; left
     rcases spDof_is l (spW l) with ⟨b1, _⟩ | ⟨_, b2⟩
     ·exact absurd b1 a46
     ·omega
  rcases hcase with ⟨c1, c2⟩ | ⟨c1, c2⟩ | ⟨c1, c2⟩
  ·have : spD l ≠ spS l := by omega
   have := fin this
   omega
  ·have hne : spD l ≠ spS l := by omega
   have hE2 := fin hne
   rw [c1] at dE
   have d0 : spE l = spEof l (spD l) := rfl
   rcases spEof_is (l.take k) (spD l) with ⟨a1, a2, a3⟩ | ⟨_, a2⟩
   ·rw [at_take l c2] at a1
    by_cases h1 : spD l + 1 < k
    ·rw [sgn_take l h1] at a2 a3
     have hs : sgn l (spD l + 1) <= spD l + 2 := by unfold sgn; split <;> omega
     rw [dig_take' l (by omega)] at a2 a3
     rcases spEof_is l (spD l) with ⟨_, b2, b3⟩ | ⟨b1, _⟩
     ·omega
     ·exact absurd ⟨a1, by omega⟩ b1
    ·rw [sgn_take_past l (by omega), dig_past (by rw [len_take hk]; omega)] at a2
     omega
   ·omega
  ·rw [c1] at dE
   have : spEof (l.take k) (spW l) = spW l := by
    rcases spEof_is (l.take k) (spW l) with ⟨a1, _⟩ | ⟨_, a2⟩
    ·rw [at_take l (by omega), c2] at a1
     exact absurd a1 (by decide)
    ·exact a2
   omega
theorem begins_yes {l : List UInt8} (h0 : 0 < len l) : isDec (l.take (len l)) = true := by
 have hn : spD l ≠ spS l := by
  intro h
  unfold len at h0; rw [if_pos h] at h0; omega
 rw [len_pos hn] at *
 have hk := spE_hi l
 have eS := spS_take l h0
 have eW := spW_take l h0
 have l1 := spW_lo l
 have l2 := spD_lo l
 have l3 := spE_lo l
 have s1 := spS_one l
 generalize hkk : spE l = k at *
 rw [show min (spW l) k = spW l by omega] at eW
 have dD : spD (l.take k) = spDof (l.take k) (spW (l.take k)) := rfl
 have dE : spE (l.take k) = spEof (l.take k) (spD (l.take k)) := rfl
 rw [eW] at dD
 have d0 : spD l = spDof l (spW l) := rfl
 have e0 : k = spEof l (spD l) := hkk.symm
 have eD : spD (l.take k) = spD l := by
  rcases spDof_is l (spW l) with ⟨b1, b2, b3⟩ | ⟨b1, b2⟩
  ·rcases spDof_is (l.take k) (spW l) with ⟨_, _, a3⟩ | ⟨a1, _⟩
   ·rw [dig_take' l (by omega)] at a3; omega
   ·exact absurd ⟨(at_take l (by omega)).trans b1, by rw [dig_take' l (by omega)]; omega⟩ a1
  ·rcases spDof_is (l.take k) (spW l) with ⟨a1, a2, _⟩ | ⟨_, a2⟩
   ·exfalso
    by_cases hw : spW l < k
    ·rw [at_take l hw] at a1
     rw [dig_take' l (by omega)] at a2
     exact b1 ⟨a1, by omega⟩
    ·rw [at_take_past l (by omega)] at a1
     exact absurd a1 (by decide)
   ·omega
 rw [eD] at dE
 have eE : spE (l.take k) = k := by
  rcases spEof_is l (spD l) with ⟨b1, b2, b3⟩ | ⟨_, b2⟩
  ·have g1 := sgn_lo l (spD l + 1)
   rcases spEof_is (l.take k) (spD l) with ⟨_, _, a3⟩ | ⟨a1, _⟩
   ·rw [sgn_take l (by omega), dig_take' l (by omega)] at a3; omega
   ·exact absurd ⟨by rw [at_take l (by omega)]; exact b1, by rw [sgn_take l (by omega), dig_take' l (by omega)]; omega⟩ a1
  ·rcases spEof_is (l.take k) (spD l) with ⟨a1, _⟩ | ⟨_, a2⟩
   ·rw [at_take_past l (by omega)] at a1
    exact absurd a1 (by decide)
   ·omega
 unfold isDec
 apply decide_eq_true
 unfold len
 rw [if_neg (by rw [eD, eS]; exact hn), eE, len_take hk]
 exact ⟨by omega, rfl⟩
end Fx
end Go.Proofs.Ytaofkaehhikfaaa
namespace Go.Proofs.Ytaofkaehhikfaaa
namespace Fx
def Ends (L : List UInt8) (m : Nat) : Prop := at' L m = 128 ∨ at' L m = 0
theorem ends_isD {L : List UInt8} {m : Nat} (h : Ends L m) : isD (at' L m) = false := by rcases h with h | h <;> rw [h] <;> decide
theorem ends_ne {L : List UInt8} {m : Nat} (h : Ends L m) {c : UInt8} (h1 : c ≠ 128) (h2 : c ≠ 0) : at' L m ≠ c := by
 rcases h with h | h <;> rw [h]
 ·exact fun e => h1 e.symm
 ·exact fun e => h2 e.symm
theorem dig_stop {L : List UInt8} {m : Nat} (h : Ends L m) : ∀ n a, n = m - a -> a <= m -> dig L a <= m
 | 0, a, hn, ha => by
   have : a = m := by omega
   subst this
   rw [dig_no L a (ends_isD h)]; exact Nat.le_refl _
 | n + 1, a, hn, ha => by
   cases hd : isD (at' L a)
   ·rw [dig_no L a hd]; exact ha
   ·have hne : a ≠ m := fun e => by rw [e, ends_isD h] at hd; cases hd
    rw [dig_yes L a hd]
    exact dig_stop h n (a + 1) (by omega) (by omega)
theorem dig_cut {L : List UInt8} {m a : Nat} (h : Ends L m) (ha : a <= m) : dig (L.take m) a = dig L a := by
 rw [dig_take' L ha]
 have := dig_stop h _ a rfl ha
 omega
theorem at_cut {L : List UInt8} {m a : Nat} (h : Ends L m) (ha : a <= m) {c : UInt8} (h1 : c ≠ 128) (h2 : c ≠ 0) : at' (L.take m) a = c ↔ at' L a = c := by
 by_cases hlt : a < m
 ·rw [at_take L hlt]
 ·have : a = m := by omega
  subst this
  rw [at_take_past L (Nat.le_refl _)]
  exact ⟨fun e => absurd e.symm h2, fun e => absurd e (ends_ne h h1 h2)⟩
theorem sgn_cut {L : List UInt8} {m a : Nat} (h : Ends L m) (ha : a <= m) : sgn (L.take m) a = sgn L a /\ sgn L a <= m := by
 unfold sgn
 have e1 := at_cut h ha (c := 43) (by decide) (by decide)
 have e2 := at_cut h ha (c := 45) (by decide) (by decide)
 by_cases c : at' L a = 43 ∨ at' L a = 45
 ·rw [if_pos c, if_pos (by rw [e1, e2]; exact c)]
  refine ⟨rfl, ?_⟩
  by_cases hlt : a < m
  ·omega
  ·have : a = m := by omega
   subst this
   rcases c with c | c
   ·exact absurd c (ends_ne h (by decide) (by decide))
   ·exact absurd c (ends_ne h (by decide) (by decide))
 ·rw [if_neg c, if_neg (by rw [e1, e2]; exact c)]
  exact ⟨rfl, ha⟩
theorem spDof_cut {L : List UInt8} {m w : Nat} (h : Ends L m) (hw : w <= m) : spDof (L.take m) w = spDof L w /\ spDof L w <= m := by
 have e1 := at_cut h hw (c := 46) (by decide) (by decide)
 by_cases c : at' L w = 46
 ·have hlt : w < m := by
   by_cases hlt : w < m
   ·exact hlt
   ·have : w = m := by omega
    subst this
    exact absurd c (ends_ne h (by decide) (by decide))
  have e2 := dig_cut h (show w + 1 <= m by omega)
  have e3 := dig_stop h _ (w + 1) rfl (by omega)
  unfold spDof
  by_cases c2 : w + 1 < dig L (w + 1)
  ·rw [if_pos ⟨e1.2 c, by rw [e2]; exact c2⟩, if_pos ⟨c, c2⟩, e2]; exact ⟨rfl, e3⟩
  ·rw [if_neg (fun hh => c2 (by rw [<- e2]; exact hh.2)), if_neg (fun hh => c2 hh.2)]; exact ⟨rfl, hw⟩
 ·unfold spDof
  rw [if_neg (fun hh => c (e1.1 hh.1)), if_neg (fun hh => c hh.1)]
  exact ⟨rfl, hw⟩
theorem spEof_cut {L : List UInt8} {m d : Nat} (h : Ends L m) (hd : d <= m) : spEof (L.take m) d = spEof L d /\ spEof L d <= m := by
 have e1 := at_cut h hd (c := 101) (by decide) (by decide)
 have e2 := at_cut h hd (c := 69) (by decide) (by decide)
 by_cases c : at' L d = 101 ∨ at' L d = 69
 ·have hlt : d < m := by
   by_cases hlt : d < m
   ·exact hlt
   ·have : d = m := by omega
    subst this
    rcases c with c | c
    ·exact absurd c (ends_ne h (by decide) (by decide))
    ·exact absurd c (ends_ne h (by decide) (by decide))
  have e3 := sgn_cut h (show d + 1 <= m by omega)
  have e4 := dig_cut h e3.2
  have e5 := dig_stop h _ (sgn L (d + 1)) rfl e3.2
  have c' : at' (L.take m) d = 101 ∨ at' (L.take m) d = 69 := by rw [e1, e2]; exact c
  unfold spEof
  rw [e3.1, e4]
  by_cases c2 : sgn L (d + 1) < dig L (sgn L (d + 1))
  ·rw [if_pos ⟨c', c2⟩, if_pos ⟨c, c2⟩]; exact ⟨rfl, e5⟩
  ·rw [if_neg (fun hh => c2 hh.2), if_neg (fun hh => c2 hh.2)]; exact ⟨rfl, hd⟩
 ·unfold spEof
  rw [if_neg (fun hh => c (by have := hh.1; rw [e1, e2] at this; exact this)), if_neg (fun hh => c hh.1)]
  exact ⟨rfl, hd⟩
theorem len_cut {L : List UInt8} {m : Nat} (h : Ends L m) : len (L.take m) = len L /\ len L <= m := by
 have s := sgn_cut h (Nat.zero_le m)
 have w := dig_cut h s.2
 have w2 := dig_stop h _ (sgn L 0) rfl s.2
 have d := spDof_cut h w2
 have e := spEof_cut h d.2
 have es : spS (L.take m) = spS L := s.1
 have ew : spW (L.take m) = spW L := by unfold spW; rw [es]; exact w
 have ed : spD (L.take m) = spD L := by unfold spD; rw [ew]; exact d.1
 have ee : spE (L.take m) = spE L := by unfold spE; rw [ed]; exact e.1
 unfold len
 rw [es, ed, ee]
 refine ⟨rfl, ?_⟩
 split
 ·omega
 ·exact e.2
end Fx
namespace Tk
open Ru
def p8 (c : Int) : UInt8 := UInt8.ofNat (min c 128).toNat
theorem p8_lt {c : Int} (h : c < 128) : p8 c = u8 c := by unfold p8 u8; rw [show min c 128 = c by omega]
theorem p8_ge {c : Int} (h : ¬ c < 128) : p8 c = 128 := by unfold p8; rw [show min c 128 = 128 by omega]; rfl
theorem numL_eq (l : List Int) (k : Nat) : numL l k = (ascL l k).map u8 := by
 unfold numL strOfNums; simp [u8]
theorem ascL_take (m : List Int) : (m.takeWhile fun c => decide (c < 128)).map u8 = (m.map p8).take (m.takeWhile fun c => decide (c < 128)).length /\ Fx.Ends (m.map p8) (m.takeWhile fun c => decide (c < 128)).length := by
 induction m with
 | nil => exact ⟨rfl, .inr rfl⟩
 | cons a t ih =>
   by_cases h : a < 128
   ·rw [List.takeWhile_cons, decide_eq_true h, if_pos rfl]
    refine ⟨?_, ?_⟩
    ·rw [List.map_cons, List.map_cons, List.length_cons, List.take_succ_cons, p8_lt h, <- ih.1]
    ·have := ih.2
     unfold Fx.Ends Fx.at' at *
     rw [List.map_cons, List.length_cons, List.getD_cons_succ]
     exact this
   ·rw [List.takeWhile_cons, decide_eq_false h]
    refine ⟨rfl, .inl ?_⟩
    unfold Fx.at'
    rw [List.map_cons, p8_ge h]; rfl
theorem plain_len (l : List Int) (k : Nat) : Fx.len ((l.map p8).drop k) = nlen l k := by
 have h := ascL_take (l.drop k)
 unfold nlen
 rw [numL_eq, <- List.map_drop]
 show _ = Fx.len (((l.drop k).takeWhile fun c => decide (c < 128)).map u8)
 rw [h.1]
 exact (Fx.len_cut h.2).1.symm
theorem plain_val (l : List Int) (k : Nat) : pv (((l.map p8).drop k).take (nlen l k)) = nval l k := by
 have h := ascL_take (l.drop k)
 have h2 := (Fx.len_cut h.2).2
 rw [List.map_drop, plain_len] at h2
 unfold nval
 rw [numL_eq]
 show _ = pv ((((l.drop k).takeWhile fun c => decide (c < 128)).map u8).take (nlen l k))
 rw [h.1, List.take_take, List.map_drop, Nat.min_eq_left h2]
theorem nlen_num {l : List Int} {k : Nat} (h : 0 < nlen l k) : k < l.length /\ numB (g l k) = true := by
 have hk : k < l.length := by
  have h1 := numL_len l k
  have h2 := Fx.len_hi (numL l k)
  unfold nlen at h
  omega
 refine ⟨hk, ?_⟩
 rw [<- plain_len] at h
 have e : Fx.at' ((l.map p8).drop k) 0 = p8 (g l k) := by
  unfold Fx.at'
  rw [<- List.map_drop, List.drop_eq_getElem_cons hk, List.map_cons, g_eq hk]; rfl
 generalize (l.map p8).drop k = L at *
 unfold numB
 apply decide_eq_true
 have hne : Fx.spD L ≠ Fx.spS L := fun hh => by unfold Fx.len at h; rw [if_pos hh] at h; omega
 have key : Fx.at' L 0 = 43 ∨ Fx.at' L 0 = 45 ∨ Fx.at' L 0 = 46 ∨ Fx.isD (Fx.at' L 0) = true := by
  by_cases h1 : Fx.at' L 0 = 43
  ·exact .inl h1
  by_cases h2 : Fx.at' L 0 = 45
  ·exact .inr (.inl h2)
  by_cases h3 : Fx.at' L 0 = 46
  ·exact .inr (.inr (.inl h3))
  cases hd : Fx.isD (Fx.at' L 0)
  ·exfalso
   apply hne
   have es : Fx.spS L = 0 := by unfold Fx.spS Fx.sgn; rw [if_neg (by rintro (e | e); exact h1 e; exact h2 e)]
   have ew : Fx.spW L = 0 := by unfold Fx.spW; rw [es, Fx.dig_no L 0 hd]
   unfold Fx.spD Fx.spDof
   rw [ew, es, if_neg (fun hh => h3 hh.1)]
  ·exact .inr (.inr (.inr rfl))
 rw [e] at key
 by_cases hc : g l k < 128
 ·rw [p8_lt hc] at key
  by_cases h0 : 0 <= g l k
  ·have ht : (u8 (g l k)).toNat = (g l k).toNat := by unfold u8; rw [UInt8.toNat_ofNat']; omega
   rcases key with h | h | h | h
   ·rw [h] at ht; have : (43 : UInt8).toNat = 43 := rfl; omega
   ·rw [h] at ht; have : (45 : UInt8).toNat = 45 := rfl; omega
   ·rw [h] at ht; have : (46 : UInt8).toNat = 46 := rfl; omega
   ·unfold Fx.isD at h; have := of_decide_eq_true h; omega
  ·have : u8 (g l k) = 0 := by unfold u8; rw [show (g l k).toNat = 0 by omega]; rfl
   rw [this] at key
   exfalso; revert key; decide
 ·rw [p8_ge hc] at key
  exfalso; revert key; decide
theorem at_lo {l : List Int} (h : ∀ c ∈ l, 0 <= c) (k : Nat) : -1 <= at' l k := by
 unfold at'
 split
 ·rename_i hk
  rw [g_eq hk]
  have := h _ (List.getElem_mem hk)
  omega
 ·omega
theorem at_neg {l : List Int} (h : ∀ c ∈ l, 0 <= c) {k : Nat} (hk : k < l.length) : 0 <= at' l k := by
 rw [at_in hk, g_eq hk]; exact h _ (List.getElem_mem hk)
theorem esc_code {l : List Int} (h : ∀ c ∈ l, 0 <= c) (k : Nat) : esc l k = (decide (at' l k = 92) && (decide (at' l (k + 1) ≠ 10) && decide (at' l (k + 1) ≠ -1))) := by
 have := at_lo h (k + 1)
 unfold esc
 rw [Bool.eq_iff_iff]
 simp only [Bool.and_eq_true, decide_eq_true_eq]
 omega
theorem begs_code (l : List Int) (k : Nat) : begs l k = if at' l k = 45 then (decide (at' l (k + 1) = 45) || may l (k + 1)) else may l k := by
 unfold begs
 by_cases h : at' l k = 45
 ·have hm : may l k = false := by
   unfold may esc
   rw [h]
   rfl
  rw [if_pos h, hm, decide_eq_true h, Bool.false_or, Bool.true_and, Bool.or_comm]
 ·rw [if_neg h, decide_eq_false h, Bool.false_and, Bool.or_false]
theorem qq_far (l : List Int) (e : Int) {k : Nat} (hk : l.length <= k) : qq l e k = (6, [], l.length) := by
 rw [qq_end (by omega), show min (k + 1) l.length = l.length by omega]
theorem qq_clamp {l : List Int} {e : Int} {k : Nat} : qq l e k = qq l e (min k l.length) := by
 by_cases h : k <= l.length
 ·rw [Nat.min_eq_left h]
 ·rw [qq_far l e (by omega), Nat.min_eq_right (by omega), qq_far l e (Nat.le_refl _)]
theorem sp_stop (l : List Int) : ∀ (m k : Nat) (b : Bool), l.length - k <= m -> k <= l.length -> whiB (at' l (sp l k b).1) = false /\ opn l (sp l k b).1 = false
 | m, k, b, hm, hk => by
   cases hw : whiB (at' l k)
   ·cases ho : opn l k
    ·rw [sp_no hw ho]; exact ⟨hw, ho⟩
    ·rw [sp_opn hw ho]
     have hc := cmt_le ho
     match m, hm with
     | 0, hm => omega
     | m + 1, hm => exact sp_stop l m _ b (by omega) hc.2
   ·rw [sp_white hw]
    have := whi_lt hw
    match m, hm with
    | 0, hm => omega
    | m + 1, hm => exact sp_stop l m _ true (by omega) (by omega)
theorem sp_gt {l : List Int} {k : Nat} {b : Bool} (h : whiB (at' l k) = true ∨ opn l k = true) : k < (sp l k b).1 := by
 cases hw : whiB (at' l k)
 ·rw [hw] at h
  have ho : opn l k = true := by
   rcases h with h | h
   ·cases h
   ·exact h
  rw [sp_opn hw ho]
  have hc := cmt_le ho
  have := sp_le l (cmt l k) b hc.2
  omega
 ·rw [sp_white hw]
  have hlt := whi_lt hw
  have := sp_le l (k + 1) true (by omega)
  omega
theorem sp_again {l : List Int} {k : Nat} (b c : Bool) (hk : k <= l.length) : sp l (sp l k b).1 c = ((sp l k b).1, c) := by
 have h := sp_stop l _ k b (Nat.le_refl _) hk
 exact sp_no h.1 h.2
theorem scan_gap {l : List Int} {k : Nat} (hk : k < l.length) : scan l k = spTok (sp l k false).2 ++ scan l (sp l k false).1 := by
 have h1 := sp_le l k false (by omega)
 have h2 := sp_again false false (show k <= l.length by omega)
 by_cases h : (sp l k false).1 < l.length
 ·rw [scan_on hk h, List.append_assoc]
  congr 1
  have h3 := scan_on h (by rw [h2]; exact h)
  rw [h3, h2]; rfl
 ·rw [scan_last hk h, scan_end h, List.append_nil]
theorem scan_tok {l : List Int} {k : Nat} (hk : k < l.length) (hw : whiB (at' l k) = false) (ho : opn l k = false) : scan l k = tokOf (nxt l k) :: scan l (nxt l k).2.2.2 := by
 have h := sp_no (b := false) hw ho
 have h2 := scan_on hk (by rw [h]; exact hk)
 rw [h2, h]; rfl
end Tk
end Go.Proofs.Ytaofkaehhikfaaa
namespace Go.Proofs.Ytaofkaehhikfaaa
open Go.RowKit
namespace Vl
open Tk Ns
abbrev vwS : ByteArray := ⟨#[99, 111, 117, 110, 116, 101, 114, 40, 99, 44, 32, 108, 111, 119, 101, 114, 45, 114, 111, 109, 97, 110, 41, 32, 39, 32, 111, 102, 32, 39, 32, 99, 111, 117, 110, 116, 101, 114, 40, 112, 97, 103, 101, 115, 41]⟩
def vwB : List Int := [99, 111, 117, 110, 116, 101, 114, 40, 99, 44, 32, 108, 111, 119, 101, 114, 45, 114, 111, 109, 97, 110, 41, 32, 39, 32, 111, 102, 32, 39, 32, 99, 111, 117, 110, 116, 101, 114, 40, 112, 97, 103, 101, 115, 41]
def vwT : List Tok := [(3, ⟨#[99, 111, 117, 110, 116, 101, 114]⟩, 0), (2, ⟨#[99]⟩, 0), (16, ⟨#[]⟩, 0), (1, ⟨#[]⟩, 0), (2, ⟨#[108, 111, 119, 101, 114, 45, 114, 111, 109, 97, 110]⟩, 0), (13, ⟨#[41]⟩, 0), (1, ⟨#[]⟩, 0), (6, ⟨#[32, 111, 102, 32]⟩, 0), (1, ⟨#[]⟩, 0), (3, ⟨#[99, 111, 117, 110, 116, 101, 114]⟩, 0), (2, ⟨#[112, 97, 103, 101, 115]⟩, 0), (13, ⟨#[41]⟩, 0)]
theorem vwB_is : Ru.bs vwS = vwB := by decide +kernel
theorem vwB_rd : Ru.rd vwB = vwB := by decide +kernel
theorem vwn0 : nxt vwB 0 = (3, ⟨#[99, 111, 117, 110, 116, 101, 114]⟩, 0, 8) := by decide +kernel
theorem vwn1 : nxt vwB 8 = (2, ⟨#[99]⟩, 0, 9) := by decide +kernel
theorem vwn2 : nxt vwB 9 = (16, ⟨#[]⟩, 0, 10) := by decide +kernel
theorem vws3 : Tk.sp vwB 10 false = (11, true) := by decide +kernel
theorem vwn4 : nxt vwB 11 = (2, ⟨#[108, 111, 119, 101, 114, 45, 114, 111, 109, 97, 110]⟩, 0, 22) := by decide +kernel
theorem vwn5 : nxt vwB 22 = (13, ⟨#[41]⟩, 0, 23) := by decide +kernel
theorem vws6 : Tk.sp vwB 23 false = (24, true) := by decide +kernel
theorem vwn7 : nxt vwB 24 = (6, ⟨#[32, 111, 102, 32]⟩, 0, 30) := by decide +kernel
theorem vws8 : Tk.sp vwB 30 false = (31, true) := by decide +kernel
theorem vwn9 : nxt vwB 31 = (3, ⟨#[99, 111, 117, 110, 116, 101, 114]⟩, 0, 39) := by decide +kernel
theorem vwn10 : nxt vwB 39 = (2, ⟨#[112, 97, 103, 101, 115]⟩, 0, 44) := by decide +kernel
theorem vwn11 : nxt vwB 44 = (13, ⟨#[41]⟩, 0, 45) := by decide +kernel
theorem vw_scan : scan (Ru.rd (Ru.bs vwS)) 0 = vwT := by
 rw [vwB_is, vwB_rd]
 rw [scan_tok (k := 0) (by decide) (by decide +kernel) (by decide +kernel), vwn0]
 rw [scan_tok (k := 8) (by decide) (by decide +kernel) (by decide +kernel), vwn1]
 rw [scan_tok (k := 9) (by decide) (by decide +kernel) (by decide +kernel), vwn2]
 rw [scan_gap (k := 10) (by decide), vws3]
 rw [scan_tok (k := 11) (by decide) (by decide +kernel) (by decide +kernel), vwn4]
 rw [scan_tok (k := 22) (by decide) (by decide +kernel) (by decide +kernel), vwn5]
 rw [scan_gap (k := 23) (by decide), vws6]
 rw [scan_tok (k := 24) (by decide) (by decide +kernel) (by decide +kernel), vwn7]
 rw [scan_gap (k := 30) (by decide), vws8]
 rw [scan_tok (k := 31) (by decide) (by decide +kernel) (by decide +kernel), vwn9]
 rw [scan_tok (k := 39) (by decide) (by decide +kernel) (by decide +kernel), vwn10]
 rw [scan_tok (k := 44) (by decide) (by decide +kernel) (by decide +kernel), vwn11]
 rw [scan_end (k := 45) (by decide)]
 rfl
abbrev vrS : ByteArray := ⟨#[114, 101, 99, 116, 111]⟩
def vrB : List Int := [114, 101, 99, 116, 111]
theorem vrB_is : Ru.bs vrS = vrB := by decide +kernel
theorem vrB_rd : Ru.rd vrB = vrB := by decide +kernel
theorem vrn : nxt vrB 0 = (2, vrS, 0, 5) := by decide +kernel
theorem vr_scan : scan (Ru.rd (Ru.bs vrS)) 0 = [(2, vrS, 0)] := by
 rw [vrB_is, vrB_rd]
 rw [scan_tok (k := 0) (by decide) (by decide +kernel) (by decide +kernel), vrn]
 rw [scan_end (k := 5) (by decide)]
 rfl
theorem short_deep {L : List Tok} (h : L.length <= 64) : ¬ deep L := by
 rintro ⟨k, hk, h2⟩
 have := opn_len L (k + 1)
 omega
def vwL : List Tok := [(3, ⟨#[99, 111, 117, 110, 116, 101, 114]⟩, 0), (2, ⟨#[99]⟩, 0), (16, ⟨#[]⟩, 0), (2, ⟨#[108, 111, 119, 101, 114, 45, 114, 111, 109, 97, 110]⟩, 0), (13, ⟨#[41]⟩, 0), (6, ⟨#[32, 111, 102, 32]⟩, 0), (3, ⟨#[99, 111, 117, 110, 116, 101, 114]⟩, 0), (2, ⟨#[112, 97, 103, 101, 115]⟩, 0), (13, ⟨#[41]⟩, 0)]
theorem vw_rd : rd vwT = vwL := by
 unfold rd
 have e : F vwT = vwL := by decide +kernel
 rw [e, if_neg (short_deep (by decide))]
theorem vw_parts : parts vwL = some [((3, ⟨#[99, 111, 117, 110, 116, 101, 114]⟩, 0), [(2, ⟨#[99]⟩, 0), (16, ⟨#[]⟩, 0), (2, ⟨#[108, 111, 119, 101, 114, 45, 114, 111, 109, 97, 110]⟩, 0)]), ((6, ⟨#[32, 111, 102, 32]⟩, 0), []), ((3, ⟨#[99, 111, 117, 110, 116, 101, 114]⟩, 0), [(2, ⟨#[112, 97, 103, 101, 115]⟩, 0)])] := by
 unfold vwL
 rw [parts_open (by decide) (by rfl), parts_plain (by decide), parts_open (by decide) (by rfl), parts_nil]
 rfl
theorem vw_content : rcontent vwT = ([(2, ⟨#[]⟩, ⟨#[99]⟩, 2, 0), (1, ⟨#[32, 111, 102, 32]⟩, ⟨#[]⟩, 0, 0), (2, ⟨#[]⟩, ⟨#[112, 97, 103, 101, 115]⟩, 0, 0)], false, true) := by
 rw [<- content_same, vw_rd]
 unfold contentS
 rw [if_neg (by decide), vw_parts]
 have e : (Option.bind (some [((3, ⟨#[99, 111, 117, 110, 116, 101, 114]⟩, 0), [(2, ⟨#[99]⟩, 0), (16, ⟨#[]⟩, 0), (2, ⟨#[108, 111, 119, 101, 114, 45, 114, 111, 109, 97, 110]⟩, 0)]), ((6, ⟨#[32, 111, 102, 32]⟩, 0), []), ((3, ⟨#[99, 111, 117, 110, 116, 101, 114]⟩, 0), [(2, ⟨#[112, 97, 103, 101, 115]⟩, 0)])]) (its false)) = some [(2, ⟨#[]⟩, ⟨#[99]⟩, 2, 0), (1, ⟨#[32, 111, 102, 32]⟩, ⟨#[]⟩, 0, 0), (2, ⟨#[]⟩, ⟨#[112, 97, 103, 101, 115]⟩, 0, 0)] := by decide +kernel
 rw [e]
theorem vr_break : breakS (rd [(2, vrS, 0)]) = some 4 := by
 have e : rd [(2, vrS, 0)] = [(2, vrS, 0)] := by
  unfold rd
  have e : F [(2, vrS, 0)] = [(2, vrS, 0)] := by decide +kernel
  rw [e, if_neg (short_deep (by decide))]
 rw [e]
 decide +kernel
theorem vu_style : sty (Ru.lowS ⟨#[85, 112, 112, 101, 114, 45, 76, 97, 116, 105, 110]⟩) = 5 := by decide +kernel
end Vl
namespace Tk
def pushes (ds : List Int) (r : Int × List Int × Nat) : Int × List Int × Nat := (r.1, ds ++ r.2.1, r.2.2)
end Tk
def QuoAt (l : List Int) (e : Int) (k0 : Nat) (w : World) (v1 v7 : Value) (wr : World) : Prop :=
 ∃ (k : Nat) (ds : List Int), k <= l.length + 1 /\ v1 = .int .i64 k /\ Hid (Tk.qq l e k0 = Tk.pushes ds (Tk.qq l e k)) /\ wr.ownsRow (w.heap.size + 1) 3 1 v7 ds.length (nums .i64 ds) /\ Hid (Below (w.heap.size + 1) (w.alloc zeroTok) wr) /\ ds.length <= k
def Tokened (kind : Int) (t : ByteArray) (n : Int) (k : Nat) (w : World) (e : Ending) (w' : World) : Prop := e = .returned (.tuple #[tokV kind t n, .int .i64 k]) /\ Below w.heap.size w w'
theorem zero_size (w : World) : (w.alloc zeroTok).heap.size = w.heap.size + 1 := by simp
theorem quo_below {w wr w2 : World} (h : Below (w.heap.size + 1) (w.alloc zeroTok) wr) (h2 : Below wr.heap.size wr w2) : Below (w.heap.size + 1) (w.alloc zeroTok) w2 :=
 h.trans (h2.mono (by have := h.size; rw [zero_size] at this; exact this))
theorem tok_cells {w w2 : World} (h : Below (w.heap.size + 1) (w.alloc zeroTok) w2) :
 w2.cell? ⟨w.heap.size, 0, none⟩ = some (.int .i64 0) /\ w2.cell? ⟨w.heap.size, 1, none⟩ = some (.string ⟨#[]⟩) /\ w2.cell? ⟨w.heap.size, 2, none⟩ = some (.int .i64 0) /\
 w2.frozen? ⟨w.heap.size, 0, none⟩ = false /\ w2.frozen? ⟨w.heap.size, 1, none⟩ = false /\ w2.frozen? ⟨w.heap.size, 2, none⟩ = false := by
 have hc : ∀ j, w2.cell? ⟨w.heap.size, j, none⟩ = (w.alloc zeroTok).cell? ⟨w.heap.size, j, none⟩ := fun j => h.cell (p := ⟨w.heap.size, j, none⟩) (Nat.lt_succ_self _)
 have hf : ∀ j, w2.frozen? ⟨w.heap.size, j, none⟩ = (w.alloc zeroTok).frozen? ⟨w.heap.size, j, none⟩ := fun j => h.frozen (p := ⟨w.heap.size, j, none⟩) (Nat.lt_succ_self _)
 rw [hc, hc, hc, hf, hf, hf]
 unfold zeroTok
 refine ⟨?_, ?_, ?_, ?_, ?_, ?_⟩
 ·rw [World.cell?_alloc_mark]; rfl
 ·rw [World.cell?_alloc_mark]; rfl
 ·rw [World.cell?_alloc_mark]; rfl
 ·rw [World.frozen?_alloc_mark]; rfl
 ·rw [World.frozen?_alloc_mark]; rfl
 ·rw [World.frozen?_alloc_mark]; rfl
theorem tok_below {w w2 : World} (h : Below (w.heap.size + 1) (w.alloc zeroTok) w2) (x y z : Value) :
 Below w.heap.size w (((w2.setCell ⟨w.heap.size, 0, none⟩ x).setCell ⟨w.heap.size, 1, none⟩ y).setCell ⟨w.heap.size, 2, none⟩ z) :=
 (((((Below.refl _ w).alloc (Nat.le_refl _) _).trans (h.mono (Nat.le_succ _))).setCell (Nat.le_refl _) _).setCell (Nat.le_refl _) _).setCell (Nat.le_refl _) _
theorem quo_size {w wr : World} (h : Below (w.heap.size + 1) (w.alloc zeroTok) wr) : w.heap.size + 1 <= wr.heap.size := by have := h.size; rw [zero_size] at this; exact this
theorem quo_next {w wr w3 : World} {o : Obj} {k : IntKind} {E : TypeId} {v v' : Value} {ds : List Int} {x : Int} (hown : wr.ownsRow (w.heap.size + 1) E 1 v ds.length (nums k ds)) (hbel : Below (w.heap.size + 1) (w.alloc zeroTok) wr)
 (hown3 : w3.ownsRow (w.heap.size + 1) E 1 v' (ds.length + 1) (nums k ds ++ [.int k x])) (hgrow : (wr.alloc o).grownBy w3 v.ownBlock) :
 w3.ownsRow (w.heap.size + 1) E 1 v' (ds ++ [x]).length (nums k (ds ++ [x])) /\ Below (w.heap.size + 1) (w.alloc zeroTok) w3 := by
 refine ⟨?_, ?_⟩
 ·rw [nums_app, List.length_append]; exact hown3
 ·exact (hbel.alloc (quo_size hbel) o).grown hgrow (by have := quo_size hbel; simp; omega) (fun j hj => (hown.lt j hj).1)
theorem tok_ret {kind kind' n n' : Int} {t t' : ByteArray} {k k' : Int} (h1 : kind = kind') (h2 : t = t') (h3 : n = n') (h4 : k = k') : Ending.returned (.tuple #[tokV kind t n, .int .i64 k]) = .returned (.tuple #[tokV kind' t' n', .int .i64 k']) := by rw [h1, h2, h3, h4]
theorem ris_any (c : Int) (w : World) :
 Calls Try.prog 112 #[.int .i64 c] w fun e w' => e = .returned (.bool (Ru.isB c)) /\ w = w' := by
 by_cases a1 : 0 <= c <;> by_cases a2 : c <= 1114111 <;> by_cases a3 : c < 55296 <;> by_cases a4 : 57343 < c
 all_goals try omega
 all_goals
  go_enter Try.func112, Try.ntmps112
  go_wp2_with fail
  go_ret
  exact ⟨ret_bool (by unfold Ru.isB; simp; try omega), rfl⟩
theorem rbegins_any (c : Int) (w : World) :
 Calls Try.prog 106 #[.int .i64 c] w fun e w' => e = .returned (.bool (Ru.begB c)) /\ w = w' := by
 by_cases b1 : c = 95
 ·subst b1
  go_enter Try.func106, Try.ntmps106
  go_wp2_with fail
  go_ret
  exact ⟨rfl, rfl⟩
 ·have e1 := Ru.eq_f b1
  by_cases b2 : 128 <= c
  ·go_enter Try.func106, Try.ntmps106
   go_wp2_with (go_at_call 112; refine (ris_any _ _).mono ?_; rintro e w' ⟨rfl, rfl⟩)
   go_ret
   exact ⟨ret_bool (by unfold Ru.begB Ru.isB; rw [Bool.eq_iff_iff]; simp; omega), rfl⟩
  ·by_cases a1 : 97 <= c <;> by_cases a2 : c <= 122 <;> by_cases a3 : 65 <= c <;> by_cases a4 : c <= 90
   all_goals try omega
   all_goals
    go_enter Try.func106, Try.ntmps106
    go_wp2_with fail
    go_ret
    exact ⟨ret_bool (by unfold Ru.begB; simp; try omega), rfl⟩
theorem rwithin_any (c : Int) (w : World) :
 Calls Try.prog 95 #[.int .i64 c] w fun e w' => e = .returned (.bool (Ru.witB c)) /\ w = w' := by
 unfold Ru.witB
 cases hb : Ru.begB c
 ·by_cases b1 : c = 45
  ·subst b1
   go_enter Try.func95, Try.ntmps95
   go_wp2_with (go_at_call 106; refine (rbegins_any _ _).mono ?_; rintro e w' ⟨rfl, rfl⟩)
   go_ret
   exact ⟨rfl, rfl⟩
  ·have e1 := Ru.eq_f b1
   by_cases a1 : 48 <= c <;> by_cases a2 : c <= 57
   all_goals try omega
   all_goals
    go_enter Try.func95, Try.ntmps95
    go_wp2_with (go_at_call 106; refine (rbegins_any _ _).mono ?_; rintro e w' ⟨rfl, rfl⟩)
    go_ret
    exact ⟨ret_bool (by rw [Bool.eq_iff_iff]; simp; try omega), rfl⟩
 ·go_enter Try.func95, Try.ntmps95
  go_wp2_with (go_at_call 106; refine (rbegins_any _ _).mono ?_; rintro e w' ⟨rfl, rfl⟩)
  go_ret
  exact ⟨rfl, rfl⟩
theorem rhex_any (c : Int) (w : World) :
 Calls Try.prog 111 #[.int .i64 c] w fun e w' => e = .returned (.int .i64 (Ru.hexV c)) /\ w = w' := by
 by_cases b1 : 48 <= c <;> by_cases b2 : c <= 57 <;> by_cases a1 : 97 <= c <;> by_cases a2 : c <= 102 <;> by_cases a3 : 65 <= c <;> by_cases a4 : c <= 70
 all_goals try omega
 all_goals
  go_enter Try.func111, Try.ntmps111
  go_wp2_with fail
  go_ret
  exact ⟨ret_int (by unfold Ru.hexV; omega), rfl⟩
def Fresh (k : IntKind) (l : List Int) (w : World) (e : Ending) (w' : World) : Prop :=
 ∃ (b cap : Nat), e = .returned (.slice (some ⟨b, 0, none⟩) l.length cap) /\ (∀ j u, (nums k l)[j]? = some u -> w'.cell? ((⟨b, 0, none⟩ : Addr).add j) = some u) /\ Below w.heap.size w w'
theorem fresh_made {w : World} {k : IntKind} {l : List Int} {E : TypeId} (v : Ending) (h : v = .returned (.slice (some ⟨w.heap.size, 0, none⟩) l.length l.length)) : Fresh k l w v (w.alloc (.cells (nums k l).toArray E)) := by
 refine ⟨w.heap.size, l.length, h, fun j u hj => ?_, (Below.refl _ _).alloc (Nat.le_refl _) _⟩
 rw [Addr.add_lit, cell_of_row _ _ _ (nums k l).toArray E (0, 0) (heap_alloc_new w _)]
 simpa using hj
theorem bytes_any (c : Int) (w : World) (h : Ru.Is c) :
 Calls Try.prog 113 #[.int .i64 c] w (Fresh .u8 (Lib.encodeRuneZ c) w) := by
 unfold Ru.Is at h
 by_cases h1 : c < 128
 ·have e := Lib.encodeRuneZ_one h.1 (by omega : c <= 127)
  rw [e]
  have q0 : 0 <= c := h.1
  clear e h
  go_enter Try.func113, Try.ntmps113
  go_wp2_with fail
  go_ret
  exact fresh_made _ rfl
 ·by_cases h2 : c < 2048
  ·have e := Lib.encodeRuneZ_two (by omega : 128 <= c) (by omega)
   rw [e]
   clear e h
   go_enter Try.func113, Try.ntmps113
   go_wp2_with fail
   go_ret
   exact fresh_made _ rfl
  ·by_cases h3 : c < 65536
   ·have e := Lib.encodeRuneZ_three (r := c) (by omega)
    rw [e]
    clear e h
    go_enter Try.func113, Try.ntmps113
    go_wp2_with fail
    go_ret
    exact fresh_made _ rfl
   ·have e := Lib.encodeRuneZ_four (r := c) (by omega) (by omega)
    rw [e]
    have q1 : c <= 1114111 := by omega
    clear e h
    go_enter Try.func113, Try.ntmps113
    go_wp2_with fail
    go_ret
    exact fresh_made _ rfl
theorem enc_bad {c : Int} (h : ¬ Ru.Is c) : Lib.encodeRuneZ 65533 = Lib.encodeRuneZ c := by
 unfold Ru.Is at h
 rw [Lib.encodeRuneZ_bad (r := c) (by omega)]
 decide
theorem rwrite_next {w wr wb w3 : World} {v v' : Value} {l : List Int} {k : Nat} {x : Int} (hk : l.take (k + 1) = l.take k ++ [x])
 (hown : wr.ownsRow w.heap.size 5 1 v (Ru.wr (l.take k)).length (nums .u8 (Ru.wr (l.take k)))) (hbel : Below w.heap.size w wr) (hb : Below wr.heap.size wr wb)
 (hown3 : w3.ownsRow w.heap.size 5 1 v' ((Ru.wr (l.take k)).length + (Lib.encodeRuneZ x).length) (nums .u8 (Ru.wr (l.take k)) ++ nums .u8 (Lib.encodeRuneZ x))) (hgrow : wb.grownBy w3 v.ownBlock) :
 w3.ownsRow w.heap.size 5 1 v' (Ru.wr (l.take (k + 1))).length (nums .u8 (Ru.wr (l.take (k + 1)))) /\ Below w.heap.size w w3 := by
 refine ⟨?_, ?_⟩
 ·rw [hk, Ru.wr_snoc, nums_app, List.length_append]
  exact hown3
 ·have hs := hbel.size
  have hs2 := hb.size
  exact (hbel.trans (hb.mono hs)).grown hgrow (by omega) (fun j hj => (hown.lt j hj).1)
theorem nums_size (k : IntKind) (l : List Int) : (nums k l).length = l.length * 1 := by rw [nums_len]; omega
theorem rwrite_any (l : List Int) (A : Option Addr) (cap : Nat) (w : World) (hm : l.length <= 65536) (hcap : l.length <= cap) (hA : Bs w w.heap.size .i64 A l) :
 Calls Try.prog 110 #[.slice A l.length cap] w (Made .u8 5 (Ru.wr l) w) := by
 obtain ⟨i0, hi, hz0, hz1, hz2⟩ := info_parts Try.info5
 have CB : Hid (∀ (c x : Int) (wq : World), Ru.Is c -> Lib.encodeRuneZ c = Lib.encodeRuneZ x -> Calls Try.prog 113 #[.int .i64 c] wq (Fresh .u8 (Lib.encodeRuneZ x) wq)) :=
  Lib.hid fun c x wq h1 h2 => by rw [<- h2]; exact bytes_any c wq h1
 have HA := Lib.hid hA
 clear hA
 by_cases h0 : 0 < l.length
 ·obtain ⟨b, off, rfl, hb, hp⟩ := HA.out h0
  have HP := Lib.hid hp
  clear hp HA
  go_enter Try.func110, Try.ntmps110
  go_wp2_with fail
  go_loopw [3, 4] (fun v3 v4 wr => WriteAt w l v3 v4 wr) (fun _ v4 _ => l.length - (RowKit.intOf v4).toNat)
  case atStart => exact ⟨0, Nat.zero_le _, rfl, World.ownsRow_nil _ _ _ _, Below.refl _ _⟩
  case round =>
   obtain ⟨k, hk, rfl, hown, hbel⟩ := hrel
   have HO := Lib.hid hown
   have HB := Lib.hid hbel
   clear hown hbel
   by_cases hlt : k < l.length
   ·have hcell := (HB.out.cell (p := ⟨b, off + k, none⟩) hb).trans (HP.out k hlt)
    have HN := Lib.hid (Ru.take_g hlt)
    have hle := Lib.encodeRuneZ_length (Ru.g l k)
    have hc0 : (Ru.wr (l.take k)).length + 4 <= 1000000 := by have := Ru.wr_len (l.take k); have := List.length_take_le k l; omega
    have hc3 : (Ru.wr (l.take k)).length + (Lib.encodeRuneZ (Ru.g l k)).length <= maxLen := by unfold maxLen; omega
    have hc4 : ((Ru.wr (l.take k)).length + (Lib.encodeRuneZ (Ru.g l k)).length) * 1 <= 140737488355328 := by omega
    clear hle hc0
    cases his : Ru.isB (Ru.g l k)
    ·have hbad : ¬ Ru.Is (Ru.g l k) := fun h => by rw [Ru.isB_iff.2 h] at his; cases his
     have C' := Lib.hid (fun wq => CB.out 65533 (Ru.g l k) wq (by unfold Ru.Is; omega) (enc_bad hbad))
     clear hbad CB
     generalize Ru.g l k = x at *
     go_wp2_with (first | (go_at_call 112; ((with_reducible refine (ris_any _ _).mono ?_); rintro e w' ⟨rfl, rfl⟩)) | (go_at_call 113; ((with_reducible refine (C'.out _).mono ?_); rintro e wb ⟨bb, bc, rfl, hcs, hbb⟩)) | (at_builtin; refine wpList_append_own _ rfl _ _ 103 rfl w.heap.size 5 i0 (.int .u8 0) 1 1 Try.underlying103 hi hz0 hz1 hz2 rfl (by decide) _ _ _ rfl (kept_below HO.out hbb (Nat.le_refl _)) ⟨bb, 0, none⟩ _ bc (nums .u8 (Lib.encodeRuneZ x)) rfl (nums_size _ _) hcs (nums_one _ _) hc3 hc4 (Nat.le_trans HB.out.size hbb.size) ?_; intro v' w3 hown3 hgrow _; have HO3 := Lib.hid (rwrite_next HN.out HO.out HB.out hbb hown3 hgrow); clear hown3 hgrow hcs hbb))
     go_roundw
     case rel => exact ⟨k + 1, by omega, by go_num, HO3.out.1, HO3.out.2⟩
     case measure => simp [RowKit.intOf]; omega
    ·have C' := Lib.hid (fun wq => CB.out (Ru.g l k) (Ru.g l k) wq (Ru.isB_iff.1 his) rfl)
     clear CB
     generalize Ru.g l k = x at *
     go_wp2_with (first | (go_at_call 112; ((with_reducible refine (ris_any _ _).mono ?_); rintro e w' ⟨rfl, rfl⟩)) | (go_at_call 113; ((with_reducible refine (C'.out _).mono ?_); rintro e wb ⟨bb, bc, rfl, hcs, hbb⟩)) | (at_builtin; refine wpList_append_own _ rfl _ _ 103 rfl w.heap.size 5 i0 (.int .u8 0) 1 1 Try.underlying103 hi hz0 hz1 hz2 rfl (by decide) _ _ _ rfl (kept_below HO.out hbb (Nat.le_refl _)) ⟨bb, 0, none⟩ _ bc (nums .u8 (Lib.encodeRuneZ x)) rfl (nums_size _ _) hcs (nums_one _ _) hc3 hc4 (Nat.le_trans HB.out.size hbb.size) ?_; intro v' w3 hown3 hgrow _; have HO3 := Lib.hid (rwrite_next HN.out HO.out HB.out hbb hown3 hgrow); clear hown3 hgrow hcs hbb))
     go_roundw
     case rel => exact ⟨k + 1, by omega, by go_num, HO3.out.1, HO3.out.2⟩
     case measure => simp [RowKit.intOf]; omega
   ·obtain rfl : k = l.length := by omega
    have hd : Hid (l.take l.length = l) := Lib.hid (List.take_length)
    clear HP
    go_wp2_with fail
    go_ret
    exact ⟨_, rfl, by have := HO.out; rw [hd.out] at this; exact this, HB.out⟩
 ·have hl : l = [] := List.eq_nil_of_length_eq_zero (by omega)
  subst hl
  go_enter Try.func110, Try.ntmps110
  go_wp2_with fail
  go_loop [3, 4] (fun v3 v4 => v3 = .slice none 0 0 /\ v4 = .int .i64 0) (fun _ _ => 0)
  case atStart => exact ⟨rfl, rfl⟩
  case round =>
   obtain ⟨rfl, rfl⟩ := hrel
   go_wp2_with fail
   go_ret
   exact ⟨_, rfl, World.ownsRow_nil _ _ _ _, Below.refl _ _⟩
def On (w : World) (l : List Int) (b off : Nat) : Prop := ∀ j, j < l.length -> w.cell? ⟨b, off + j, none⟩ = some (.int .i64 (Ru.g l j))
theorem On.below {w w' : World} {l : List Int} {b off : Nat} (h : On w l b off) {B : Nat} (hb : b < B) (hw : Below B w w') : On w' l b off := fun j hj => (hw.cell (p := ⟨b, off + j, none⟩) hb).trans (h j hj)
theorem cast1 (k : Nat) : (k : Int) + 1 = ((k + 1 : Nat) : Int) := by omega
theorem cast2 (k : Nat) : (k : Int) + 2 = ((k + 2 : Nat) : Int) := by omega
theorem cast11 (k : Nat) : (k : Int) + 1 + 1 = ((k + 2 : Nat) : Int) := by omega
theorem tat_any (l : List Int) (x : Int) (k : Nat) (hx : x = (k : Int)) (b off cap : Nat) (w : World) (_hm : l.length <= 65536) (hp : On w l b off) :
 Calls Try.prog 93 #[.slice (some ⟨b, off, none⟩) l.length cap, .int .i64 x] w fun e w' => e = .returned (.int .i64 (Tk.at' l k)) /\ w = w' := by
 subst hx
 by_cases h : k < l.length
 ·have hc := hp k h
  rw [Tk.at_in h]
  generalize Ru.g l k = y at *
  clear hp
  go_enter Try.func93, Try.ntmps93
  go_wp2_with fail
  go_ret
  exact ⟨rfl, rfl⟩
 ·rw [Tk.at_out h]
  clear hp
  go_enter Try.func93, Try.ntmps93
  go_wp2_with fail
  go_ret
  exact ⟨rfl, rfl⟩
theorem twhite_any (c : Int) (w : World) :
 Calls Try.prog 92 #[.int .i64 c] w fun e w' => e = .returned (.bool (Ru.whiB c)) /\ w = w' := by
 by_cases a1 : c = 9
 ·subst a1
  go_enter Try.func92, Try.ntmps92
  go_wp2_with fail
  go_ret
  exact ⟨rfl, rfl⟩
 ·by_cases a2 : c = 10
  ·subst a2
   go_enter Try.func92, Try.ntmps92
   go_wp2_with fail
   go_ret
   exact ⟨rfl, rfl⟩
  ·by_cases a3 : c = 32
   ·subst a3
    go_enter Try.func92, Try.ntmps92
    go_wp2_with fail
    go_ret
    exact ⟨rfl, rfl⟩
   ·have e1 := Ru.eq_f a1
    have e2 := Ru.eq_f a2
    have e3 := Ru.eq_f a3
    go_enter Try.func92, Try.ntmps92
    go_wp2_with fail
    go_ret
    exact ⟨ret_bool (by unfold Ru.whiB; simp [a1, a2, a3]), rfl⟩
def AtIs (l : List Int) (b off cap : Nat) (w : World) : Prop := ∀ (x : Int) (k : Nat), x = (k : Int) -> Calls Try.prog 93 #[.slice (some ⟨b, off, none⟩) l.length cap, .int .i64 x] w fun e w' => e = .returned (.int .i64 (Tk.at' l k)) /\ w = w'
theorem at_is (l : List Int) (b off cap : Nat) (w : World) (hm : l.length <= 65536) (hp : On w l b off) : Hid (AtIs l b off cap w) := Lib.hid fun x k hx => tat_any l x k hx b off cap w hm hp
theorem tesc_any (l : List Int) (x : Int) (k : Nat) (hx : x = (k : Int)) (b off cap : Nat) (w : World) (hm : l.length <= 65536) (hk : k <= 100000) (hp : On w l b off) :
 Calls Try.prog 96 #[.slice (some ⟨b, off, none⟩) l.length cap, .int .i64 x] w fun e w' => e = .returned (.bool (Tk.esc l k)) /\ w = w' := by
 subst hx
 have CT := at_is l b off cap w hm hp
 clear hp
 unfold Tk.esc
 have C0 := Lib.hid (CT.out _ k rfl)
 have C1 := Lib.hid (CT.out _ _ (cast1 k))
 clear CT
 generalize Tk.at' l k = a0 at *
 generalize Tk.at' l (k + 1) = a1 at *
 by_cases e0 : a0 = 92
 ·subst e0
  by_cases e1 : 0 <= a1
  ·by_cases e2 : a1 = 10
   ·subst e2
    go_enter Try.func96, Try.ntmps96
    go_wp2_with (go_at_call 93; first | ((with_reducible refine (C0.out).mono ?_); rintro e w' ⟨rfl, rfl⟩) | ((with_reducible refine (C1.out).mono ?_); rintro e w' ⟨rfl, rfl⟩))
    go_ret
    exact ⟨rfl, rfl⟩
   ·have f2 : (a1 != 10) = true := by rw [bne_iff_ne]; exact e2
    go_enter Try.func96, Try.ntmps96
    go_wp2_with (go_at_call 93; first | ((with_reducible refine (C0.out).mono ?_); rintro e w' ⟨rfl, rfl⟩) | ((with_reducible refine (C1.out).mono ?_); rintro e w' ⟨rfl, rfl⟩))
    go_ret
    exact ⟨ret_bool (by simp [e1, e2]), rfl⟩
  ·go_enter Try.func96, Try.ntmps96
   go_wp2_with (go_at_call 93; first | ((with_reducible refine (C0.out).mono ?_); rintro e w' ⟨rfl, rfl⟩) | ((with_reducible refine (C1.out).mono ?_); rintro e w' ⟨rfl, rfl⟩))
   go_ret
   exact ⟨ret_bool (by simp; omega), rfl⟩
 ·have f0 := Ru.eq_f e0
  go_enter Try.func96, Try.ntmps96
  go_wp2_with (go_at_call 93; first | ((with_reducible refine (C0.out).mono ?_); rintro e w' ⟨rfl, rfl⟩) | ((with_reducible refine (C1.out).mono ?_); rintro e w' ⟨rfl, rfl⟩))
  go_ret
  exact ⟨ret_bool (by simp [e0]), rfl⟩
def EscIs (l : List Int) (b off cap : Nat) (w : World) : Prop := ∀ (x : Int) (k : Nat), x = (k : Int) -> k <= 100000 -> Calls Try.prog 96 #[.slice (some ⟨b, off, none⟩) l.length cap, .int .i64 x] w fun e w' => e = .returned (.bool (Tk.esc l k)) /\ w = w'
theorem esc_is (l : List Int) (b off cap : Nat) (w : World) (hm : l.length <= 65536) (hp : On w l b off) : Hid (EscIs l b off cap w) := Lib.hid fun x k hx hk => tesc_any l x k hx b off cap w hm hk hp
theorem tmay_any (l : List Int) (x : Int) (k : Nat) (hx : x = (k : Int)) (b off cap : Nat) (w : World) (hm : l.length <= 65536) (hk : k <= 100000) (hp : On w l b off) :
 Calls Try.prog 109 #[.slice (some ⟨b, off, none⟩) l.length cap, .int .i64 x] w fun e w' => e = .returned (.bool (Tk.may l k)) /\ w = w' := by
 subst hx
 have C0 := Lib.hid ((at_is l b off cap w hm hp).out _ k rfl)
 have C1 := Lib.hid ((esc_is l b off cap w hm hp).out _ k rfl hk)
 clear hp
 unfold Tk.may
 generalize Tk.at' l k = a0 at *
 generalize Tk.esc l k = a1 at *
 cases hb : Ru.begB a0
 all_goals
  go_enter Try.func109, Try.ntmps109
  go_wp2_with (first | (go_at_call 93; ((with_reducible refine (C0.out).mono ?_); rintro e w' ⟨rfl, rfl⟩)) | (go_at_call 96; ((with_reducible refine (C1.out).mono ?_); rintro e w' ⟨rfl, rfl⟩)) | (go_at_call 106; ((with_reducible refine (rbegins_any _ _).mono ?_); rintro e w' ⟨rfl, rfl⟩)))
  go_ret
  exact ⟨ret_bool (by simp), rfl⟩
def MayIs (l : List Int) (b off cap : Nat) (w : World) : Prop := ∀ (x : Int) (k : Nat), x = (k : Int) -> k <= 100000 -> Calls Try.prog 109 #[.slice (some ⟨b, off, none⟩) l.length cap, .int .i64 x] w fun e w' => e = .returned (.bool (Tk.may l k)) /\ w = w'
theorem may_is (l : List Int) (b off cap : Nat) (w : World) (hm : l.length <= 65536) (hp : On w l b off) : Hid (MayIs l b off cap w) := Lib.hid fun x k hx hk => tmay_any l x k hx b off cap w hm hk hp
theorem tbegs_any (l : List Int) (x : Int) (k : Nat) (hx : x = (k : Int)) (b off cap : Nat) (w : World) (hm : l.length <= 65536) (hk : k <= 90000) (hp : On w l b off) :
 Calls Try.prog 101 #[.slice (some ⟨b, off, none⟩) l.length cap, .int .i64 x] w fun e w' => e = .returned (.bool (Tk.begs l k)) /\ w = w' := by
 subst hx
 have C0 := Lib.hid ((at_is l b off cap w hm hp).out _ k rfl)
 have C1 := Lib.hid ((at_is l b off cap w hm hp).out _ _ (cast1 k))
 have D0 := Lib.hid ((may_is l b off cap w hm hp).out _ k rfl (by omega))
 have D1 := Lib.hid ((may_is l b off cap w hm hp).out _ _ (cast1 k) (by omega))
 clear hp
 unfold Tk.begs
 generalize Tk.at' l k = a0 at *
 generalize Tk.at' l (k + 1) = a1 at *
 generalize Tk.may l k = m0 at *
 generalize Tk.may l (k + 1) = m1 at *
 cases m0
 ·by_cases e0 : a0 = 45
  ·subst e0
   cases m1
   ·by_cases e1 : a1 = 45
    ·subst e1
     go_enter Try.func101, Try.ntmps101
     go_wp2_with (first | (go_at_call 93; first | ((with_reducible refine (C0.out).mono ?_); rintro e w' ⟨rfl, rfl⟩) | ((with_reducible refine (C1.out).mono ?_); rintro e w' ⟨rfl, rfl⟩)) | (go_at_call 109; first | ((with_reducible refine (D0.out).mono ?_); rintro e w' ⟨rfl, rfl⟩) | ((with_reducible refine (D1.out).mono ?_); rintro e w' ⟨rfl, rfl⟩)))
     go_ret
     exact ⟨rfl, rfl⟩
    ·have f1 := Ru.eq_f e1
     go_enter Try.func101, Try.ntmps101
     go_wp2_with (first | (go_at_call 93; first | ((with_reducible refine (C0.out).mono ?_); rintro e w' ⟨rfl, rfl⟩) | ((with_reducible refine (C1.out).mono ?_); rintro e w' ⟨rfl, rfl⟩)) | (go_at_call 109; first | ((with_reducible refine (D0.out).mono ?_); rintro e w' ⟨rfl, rfl⟩) | ((with_reducible refine (D1.out).mono ?_); rintro e w' ⟨rfl, rfl⟩)))
     go_ret
     exact ⟨ret_bool (by simp [e1]), rfl⟩
   ·go_enter Try.func101, Try.ntmps101
    go_wp2_with (first | (go_at_call 93; first | ((with_reducible refine (C0.out).mono ?_); rintro e w' ⟨rfl, rfl⟩) | ((with_reducible refine (C1.out).mono ?_); rintro e w' ⟨rfl, rfl⟩)) | (go_at_call 109; first | ((with_reducible refine (D0.out).mono ?_); rintro e w' ⟨rfl, rfl⟩) | ((with_reducible refine (D1.out).mono ?_); rintro e w' ⟨rfl, rfl⟩)))
    go_ret
    exact ⟨rfl, rfl⟩
  ·have f0 := Ru.eq_f e0
   go_enter Try.func101, Try.ntmps101
   go_wp2_with (first | (go_at_call 93; first | ((with_reducible refine (C0.out).mono ?_); rintro e w' ⟨rfl, rfl⟩) | ((with_reducible refine (C1.out).mono ?_); rintro e w' ⟨rfl, rfl⟩)) | (go_at_call 109; first | ((with_reducible refine (D0.out).mono ?_); rintro e w' ⟨rfl, rfl⟩) | ((with_reducible refine (D1.out).mono ?_); rintro e w' ⟨rfl, rfl⟩)))
   go_ret
   exact ⟨ret_bool (by simp [e0]), rfl⟩
 ·go_enter Try.func101, Try.ntmps101
  go_wp2_with (first | (go_at_call 93; first | ((with_reducible refine (C0.out).mono ?_); rintro e w' ⟨rfl, rfl⟩) | ((with_reducible refine (C1.out).mono ?_); rintro e w' ⟨rfl, rfl⟩)) | (go_at_call 109; first | ((with_reducible refine (D0.out).mono ?_); rintro e w' ⟨rfl, rfl⟩) | ((with_reducible refine (D1.out).mono ?_); rintro e w' ⟨rfl, rfl⟩)))
  go_ret
  exact ⟨rfl, rfl⟩
def BegsIs (l : List Int) (b off cap : Nat) (w : World) : Prop := ∀ (x : Int) (k : Nat), x = (k : Int) -> k <= 90000 -> Calls Try.prog 101 #[.slice (some ⟨b, off, none⟩) l.length cap, .int .i64 x] w fun e w' => e = .returned (.bool (Tk.begs l k)) /\ w = w'
theorem begs_is (l : List Int) (b off cap : Nat) (w : World) (hm : l.length <= 65536) (hp : On w l b off) : Hid (BegsIs l b off cap w) := Lib.hid fun x k hx hk => tbegs_any l x k hx b off cap w hm hk hp
namespace Tk
open Ru
theorem pow16 {m : Nat} (h : m <= 5) : (16 : Int) ^ m <= 1048576 := by
 rcases (show m = 0 ∨ m = 1 ∨ m = 2 ∨ m = 3 ∨ m = 4 ∨ m = 5 by omega) with rfl | rfl | rfl | rfl | rfl | rfl <;> decide
theorem hexR_yes {f : Nat} {l : List Int} {j : Nat} {n : Int} (h : 0 <= hexV (at' l j)) : hexR (f + 1) l j n = hexR f l (j + 1) (n * 16 + hexV (at' l j)) := by
 conv => lhs; unfold hexR
 rw [if_pos h]
theorem hexR_no {f : Nat} {l : List Int} {j : Nat} {n : Int} (h : ¬ 0 <= hexV (at' l j)) : hexR f l j n = (n, j) := by
 cases f with
 | zero => rfl
 | succ f => conv => lhs; unfold hexR
             rw [if_neg h]
theorem hexR_end {l : List Int} {j : Nat} {n : Int} : hexR 0 l j n = (n, j) := rfl
def meantN (n : Int) : Int := if n = 0 ∨ isB n = false then 65533 else n
def meantK (l : List Int) (j : Nat) : Nat := if whiB (at' l j) = true then j + 1 else j
theorem meant_none {l : List Int} {k : Nat} {n : Int} (h : hexR 6 l (k + 1) 0 = (n, k + 1)) : meant l k = (g l (k + 1), k + 2) := by
 unfold meant; rw [h]; simp
theorem meant_some {l : List Int} {k j : Nat} {n : Int} (h : hexR 6 l (k + 1) 0 = (n, j)) (hj : j ≠ k + 1) : meant l k = (meantN n, meantK l j) := by
 unfold meant meantN meantK; rw [h]; simp [hj]
end Tk
def MeantAt (l : List Int) (k : Nat) (v1 v6 v7 : Value) : Prop :=
 ∃ (m j : Nat) (n : Int), m <= 6 /\ v7 = .int .i64 m /\ v1 = .int .i64 j /\ v6 = .int .i64 n /\ j <= k + 1 + m /\ k + 1 + m <= j /\ 0 <= n /\ n <= 16777215 /\ Hid (Tk.hexR (6 - m) l j n = Tk.hexR 6 l (k + 1) 0) /\ Hid (n < 16 ^ m)
theorem tmeant_any (l : List Int) (k : Nat) (b off cap : Nat) (w : World) (hm : l.length <= 65536) (hk : k + 1 < l.length) (hp : On w l b off) :
 Calls Try.prog 105 #[.slice (some ⟨b, off, none⟩) l.length cap, .int .i64 k] w fun e w' => e = .returned (.tuple #[.int .i64 (Tk.meant l k).1, .int .i64 ((Tk.meant l k).2 : Nat)]) /\ w = w' := by
 have CT := at_is l b off cap w hm hp
 have hcell := hp (k + 1) hk
 clear hp
 go_enter Try.func105, Try.ntmps105
 go_wp2_with fail
 go_loop [1, 6, 7] (fun v1 v6 v7 => MeantAt l k v1 v6 v7) (fun _ _ v7 => 6 - (RowKit.intOf v7).toNat)
 case atStart => exact ⟨0, k + 1, 0, by omega, rfl, by go_num, rfl, by omega, by omega, by omega, by omega, Lib.hid rfl, Lib.hid (by decide)⟩
 case round =>
  obtain ⟨m, j, n, m1, rfl, rfl, rfl, j1, j2, n1, n2, HR, HN⟩ := hrel
  have C0 := Lib.hid (CT.out _ j rfl)
  by_cases hlt : m < 6
  ·by_cases hh : 0 <= Ru.hexV (Tk.at' l j)
   ·have hle := (Tk.hexV_le (Tk.at' l j)).2
    have HX : Hid (Tk.hexR (6 - (m + 1)) l (j + 1) (n * 16 + Ru.hexV (Tk.at' l j)) = Tk.hexR 6 l (k + 1) 0) := Lib.hid (by
     have := Tk.hexR_yes (f := 6 - (m + 1)) (n := n) hh
     rw [<- HR.out, show 6 - m = 6 - (m + 1) + 1 by omega, this])
    have hp5 := Tk.pow16 (m := m) (by omega)
    have hn3 : n <= 1048575 := by have := HN.out; omega
    have HN' : Hid (n * 16 + Ru.hexV (Tk.at' l j) < 16 ^ (m + 1)) := Lib.hid (by have := HN.out; rw [Int.pow_succ]; omega)
    clear HN HR hp5 CT hcell
    generalize Tk.at' l j = a at *
    generalize hhx : Ru.hexV a = h at *
    go_wp2_with (first | (go_at_call 93; ((with_reducible refine (C0.out).mono ?_); rintro e w' ⟨rfl, rfl⟩)) | (go_at_call 111; ((with_reducible refine (rhex_any _ _).mono ?_); rintro e w' ⟨rfl, rfl⟩)) | (go_at_call 92; ((with_reducible refine (twhite_any _ _).mono ?_); rintro e w' ⟨rfl, rfl⟩)) | (go_at_call 112; ((with_reducible refine (ris_any _ _).mono ?_); rintro e w' ⟨rfl, rfl⟩)))
    go_round
    case rel => exact ⟨m + 1, j + 1, n * 16 + h, by omega, by go_num, by go_num, rfl, by omega, by omega, by omega, by omega, HX, HN'⟩
    case measure => simp [RowKit.intOf]; omega
   ·have HE : Hid (Tk.hexR 6 l (k + 1) 0 = (n, j)) := Lib.hid (by rw [<- HR.out, Tk.hexR_no hh])
    clear HR HN
    have hh' : Ru.hexV (Tk.at' l j) < 0 := by omega
    clear hh
    by_cases m0 : m = 0
    ·subst m0
     have ej : j = k + 1 := by omega
     have HM := Lib.hid (Tk.meant_none (l := l) (k := k) (n := n) (by rw [HE.out, ej]))
     rw [<- ej] at hcell HM
     clear CT HE ej
     generalize Tk.at' l j = a at *
     generalize Ru.g l j = y at *
     go_wp2_with (first | (go_at_call 93; ((with_reducible refine (C0.out).mono ?_); rintro e w' ⟨rfl, rfl⟩)) | (go_at_call 111; ((with_reducible refine (rhex_any _ _).mono ?_); rintro e w' ⟨rfl, rfl⟩)) | (go_at_call 92; ((with_reducible refine (twhite_any _ _).mono ?_); rintro e w' ⟨rfl, rfl⟩)) | (go_at_call 112; ((with_reducible refine (ris_any _ _).mono ?_); rintro e w' ⟨rfl, rfl⟩)))
     go_ret2
     exact ⟨ret_two (by rw [HM.out]) (by first | (rw [HM.out]; done) | (rw [HM.out]; omega)), rfl⟩
    ·have HM := Lib.hid (Tk.meant_some HE.out (by omega))
     have em : ((m : Int) == 0) = false := Ru.eq_f (by omega)
     have HK : Hid (Tk.meantK l j = if Ru.whiB (Tk.at' l j) = true then j + 1 else j) := Lib.hid rfl
     clear CT HE hcell
     generalize Tk.at' l j = a at *
     by_cases n0 : n = 0
     ·subst n0
      cases hw : Ru.whiB a
      all_goals
       rw [hw] at HK
       go_wp2_with (first | (go_at_call 93; ((with_reducible refine (C0.out).mono ?_); rintro e w' ⟨rfl, rfl⟩)) | (go_at_call 111; ((with_reducible refine (rhex_any _ _).mono ?_); rintro e w' ⟨rfl, rfl⟩)) | (go_at_call 92; ((with_reducible refine (twhite_any _ _).mono ?_); rintro e w' ⟨rfl, rfl⟩)) | (go_at_call 112; ((with_reducible refine (ris_any _ _).mono ?_); rintro e w' ⟨rfl, rfl⟩)))
       go_ret2
       exact ⟨ret_two (by rw [HM.out]; rfl) (by rw [HM.out, HK.out]; simp), rfl⟩
     ·have en : ((n : Int) == 0) = false := Ru.eq_f n0
      cases hi : Ru.isB n
      ·have HV : Hid (Tk.meantN n = 65533) := Lib.hid (by unfold Tk.meantN; rw [if_pos (Or.inr hi)])
       cases hw : Ru.whiB a
       all_goals
        rw [hw] at HK
        go_wp2_with (first | (go_at_call 93; ((with_reducible refine (C0.out).mono ?_); rintro e w' ⟨rfl, rfl⟩)) | (go_at_call 111; ((with_reducible refine (rhex_any _ _).mono ?_); rintro e w' ⟨rfl, rfl⟩)) | (go_at_call 92; ((with_reducible refine (twhite_any _ _).mono ?_); rintro e w' ⟨rfl, rfl⟩)) | (go_at_call 112; ((with_reducible refine (ris_any _ _).mono ?_); rintro e w' ⟨rfl, rfl⟩)))
        go_ret2
        exact ⟨ret_two (by rw [HM.out, HV.out]) (by rw [HM.out, HK.out]; simp), rfl⟩
      ·have HV : Hid (Tk.meantN n = n) := Lib.hid (by unfold Tk.meantN; rw [if_neg (by rw [hi]; simp [n0])])
       cases hw : Ru.whiB a
       all_goals
        rw [hw] at HK
        go_wp2_with (first | (go_at_call 93; ((with_reducible refine (C0.out).mono ?_); rintro e w' ⟨rfl, rfl⟩)) | (go_at_call 111; ((with_reducible refine (rhex_any _ _).mono ?_); rintro e w' ⟨rfl, rfl⟩)) | (go_at_call 92; ((with_reducible refine (twhite_any _ _).mono ?_); rintro e w' ⟨rfl, rfl⟩)) | (go_at_call 112; ((with_reducible refine (ris_any _ _).mono ?_); rintro e w' ⟨rfl, rfl⟩)))
        go_ret2
        exact ⟨ret_two (by rw [HM.out, HV.out]) (by rw [HM.out, HK.out]; simp), rfl⟩
  ·have HE : Hid (Tk.hexR 6 l (k + 1) 0 = (n, j)) := Lib.hid (by rw [<- HR.out, show 6 - m = 0 by omega]; rfl)
   clear HR HN
   by_cases m0 : m = 0
   ·exact absurd (show m < 6 by omega) hlt
   ·have HM := Lib.hid (Tk.meant_some HE.out (by omega))
    have em : ((m : Int) == 0) = false := Ru.eq_f (by omega)
    have HK : Hid (Tk.meantK l j = if Ru.whiB (Tk.at' l j) = true then j + 1 else j) := Lib.hid rfl
    clear CT HE hcell
    generalize Tk.at' l j = a at *
    by_cases n0 : n = 0
    ·subst n0
     cases hw : Ru.whiB a
     all_goals
      rw [hw] at HK
      go_wp2_with (first | (go_at_call 93; ((with_reducible refine (C0.out).mono ?_); rintro e w' ⟨rfl, rfl⟩)) | (go_at_call 111; ((with_reducible refine (rhex_any _ _).mono ?_); rintro e w' ⟨rfl, rfl⟩)) | (go_at_call 92; ((with_reducible refine (twhite_any _ _).mono ?_); rintro e w' ⟨rfl, rfl⟩)) | (go_at_call 112; ((with_reducible refine (ris_any _ _).mono ?_); rintro e w' ⟨rfl, rfl⟩)))
      go_ret2
      exact ⟨ret_two (by rw [HM.out]; rfl) (by rw [HM.out, HK.out]; simp), rfl⟩
    ·have en : ((n : Int) == 0) = false := Ru.eq_f n0
     cases hi : Ru.isB n
     ·have HV : Hid (Tk.meantN n = 65533) := Lib.hid (by unfold Tk.meantN; rw [if_pos (Or.inr hi)])
      cases hw : Ru.whiB a
      all_goals
       rw [hw] at HK
       go_wp2_with (first | (go_at_call 93; ((with_reducible refine (C0.out).mono ?_); rintro e w' ⟨rfl, rfl⟩)) | (go_at_call 111; ((with_reducible refine (rhex_any _ _).mono ?_); rintro e w' ⟨rfl, rfl⟩)) | (go_at_call 92; ((with_reducible refine (twhite_any _ _).mono ?_); rintro e w' ⟨rfl, rfl⟩)) | (go_at_call 112; ((with_reducible refine (ris_any _ _).mono ?_); rintro e w' ⟨rfl, rfl⟩)))
       go_ret2
       exact ⟨ret_two (by rw [HM.out, HV.out]) (by rw [HM.out, HK.out]; simp), rfl⟩
     ·have HV : Hid (Tk.meantN n = n) := Lib.hid (by unfold Tk.meantN; rw [if_neg (by rw [hi]; simp [n0])])
      cases hw : Ru.whiB a
      all_goals
       rw [hw] at HK
       go_wp2_with (first | (go_at_call 93; ((with_reducible refine (C0.out).mono ?_); rintro e w' ⟨rfl, rfl⟩)) | (go_at_call 111; ((with_reducible refine (rhex_any _ _).mono ?_); rintro e w' ⟨rfl, rfl⟩)) | (go_at_call 92; ((with_reducible refine (twhite_any _ _).mono ?_); rintro e w' ⟨rfl, rfl⟩)) | (go_at_call 112; ((with_reducible refine (ris_any _ _).mono ?_); rintro e w' ⟨rfl, rfl⟩)))
       go_ret2
       exact ⟨ret_two (by rw [HM.out, HV.out]) (by rw [HM.out, HK.out]; simp), rfl⟩
end Go.Proofs.Ytaofkaehhikfaaa
namespace Go.Proofs.Ytaofkaehhikfaaa
namespace Ru
def cls (L a : Int) : Prop := (L = 2 /\ 192 <= a /\ a < 224) ∨ (L = 3 /\ 224 <= a /\ a < 240) ∨ (L = 4 /\ 240 <= a /\ a < 248)
def base (a : Int) : Int := if a < 224 then a - 192 else if a < 240 then a - 224 else a - 240
def spLo (k : Nat) (l : List Int) (x : Int) : Nat -> Int
 | 0 => x
 | j + 1 => if j + 1 < k then spLo k l x j * 64 + g l (j + 1) - 128 else spLo k l x j * 64
def spHi (k : Nat) (l : List Int) (x : Int) : Nat -> Int
 | 0 => x
 | j + 1 => if j + 1 < k then spHi k l x j * 64 + g l (j + 1) - 128 else spHi k l x j * 64 + 63
def okC (k : Nat) (l : List Int) (i : Nat) : Prop := ∀ j, 1 <= j -> j <= i -> j < k -> 128 <= g l j /\ g l j <= 191
def least (L : Int) : Int := if L = 4 then 65536 else if L = 3 then 2048 else 128
def mx (a b : Int) : Int := if a <= b then b else a
def roomLo (L lo : Int) : Int := if 55296 <= mx lo (least L) /\ mx lo (least L) <= 57343 then 57344 else mx lo (least L)
def room (L lo hi : Int) : Prop := roomLo L lo <= hi /\ roomLo L lo <= 1114111
theorem room_two (lo hi : Int) : room 2 lo hi ↔ (128 <= hi /\ lo <= hi /\ lo <= 1114111 /\ (lo < 55296 ∨ 57343 < lo ∨ 57344 <= hi)) := by
 unfold room roomLo mx least
 simp only [Int.reduceEq, if_false]
 repeat' split
 all_goals omega
theorem room_three (lo hi : Int) : room 3 lo hi ↔ (2048 <= hi /\ lo <= hi /\ lo <= 1114111 /\ (lo < 55296 ∨ 57343 < lo ∨ 57344 <= hi)) := by
 unfold room roomLo mx least
 simp only [Int.reduceEq, if_false, if_true]
 repeat' split
 all_goals omega
theorem room_four (lo hi : Int) : room 4 lo hi ↔ (65536 <= hi /\ lo <= hi /\ lo <= 1114111) := by
 unfold room roomLo mx least
 simp only [if_true]
 repeat' split
 all_goals omega
theorem okC_zero (k : Nat) (l : List Int) : okC k l 0 := fun j h1 h2 => by omega
theorem okC_next {k : Nat} {l : List Int} {i : Nat} (h : okC k l i) (h' : i + 1 < k -> 128 <= g l (i + 1) /\ g l (i + 1) <= 191) : okC k l (i + 1) := fun j h1 h2 h3 => by
 by_cases e : j = i + 1
 ·subst e; exact h' h3
 ·exact h j h1 (by omega) h3
theorem okC_three (k : Nat) (l : List Int) (i : Nat) (hi : i <= 3) : okC k l i ↔ ((i < 1 ∨ k <= 1 ∨ (128 <= g l 1 /\ g l 1 <= 191)) /\ (i < 2 ∨ k <= 2 ∨ (128 <= g l 2 /\ g l 2 <= 191)) /\ (i < 3 ∨ k <= 3 ∨ (128 <= g l 3 /\ g l 3 <= 191))) := by
 constructor
 ·intro h
  have h1 := h 1
  have h2 := h 2
  have h3 := h 3
  omega
 ·rintro ⟨h1, h2, h3⟩ j j1 j2 j3
  rcases (show j = 1 ∨ j = 2 ∨ j = 3 by omega) with rfl | rfl | rfl
  ·omega
  ·omega
  ·omega
theorem sp_bounds {k : Nat} {l : List Int} {x : Int} (h0 : 0 <= x) (h1 : x <= 31) : ∀ i, i <= 3 -> okC k l i -> 0 <= spLo k l x i /\ spLo k l x i <= spHi k l x i /\ spHi k l x i <= 32 * 64 ^ i - 1
 | 0, _, _ => by unfold spLo spHi; omega
 | i + 1, hi, h => by
   have ih := sp_bounds h0 h1 i (by omega) (fun j a b c => h j a (by omega) c)
   unfold spLo spHi
   have hp : (64 : Int) ^ (i + 1) = 64 ^ i * 64 := by rw [Int.pow_succ]
   rw [hp]
   by_cases hk : i + 1 < k
   ·have := h (i + 1) (by omega) (by omega) hk
    rw [if_pos hk, if_pos hk]
    omega
   ·rw [if_neg hk, if_neg hk]
    omega
theorem pow_three {i : Nat} (hi : i <= 3) : (64 : Int) ^ i <= 262144 := by
 rcases (show i = 0 ∨ i = 1 ∨ i = 2 ∨ i = 3 by omega) with rfl | rfl | rfl | rfl <;> decide
theorem mm_one {n a b c d : Int} (h : need a ≠ 0) : 1 <= mm n a b c d := by
 unfold mm
 repeat' split
 all_goals omega
theorem mm_two {n a b c d : Int} (h : need a ≠ 0) (hn : 1 < n) : 2 <= mm n a b c d ↔ lo2 a <= b /\ b <= hi2 a := by
 unfold mm
 repeat' split
 all_goals omega
theorem mm_three {n a b c d : Int} (h : need a = 3 ∨ need a = 4) (hn : 2 < n) : 3 <= mm n a b c d ↔ (lo2 a <= b /\ b <= hi2 a) /\ 128 <= c /\ c <= 191 := by
 unfold mm
 repeat' split
 all_goals omega
theorem mm_four {n a b c d : Int} (h : need a = 4) (hn : 3 < n) : 4 <= mm n a b c d ↔ (lo2 a <= b /\ b <= hi2 a) /\ (128 <= c /\ c <= 191) /\ 128 <= d /\ d <= 191 := by
 unfold mm
 repeat' split
 all_goals omega
theorem sp_two (k : Nat) (l : List Int) (x : Int) : spLo k l x 1 = (if 1 < k then x * 64 + g l 1 - 128 else x * 64) /\ spHi k l x 1 = (if 1 < k then x * 64 + g l 1 - 128 else x * 64 + 63) := ⟨rfl, rfl⟩
theorem sp_three (k : Nat) (l : List Int) (x : Int) : spLo k l x 2 = (if 2 < k then spLo k l x 1 * 64 + g l 2 - 128 else spLo k l x 1 * 64) /\ spHi k l x 2 = (if 2 < k then spHi k l x 1 * 64 + g l 2 - 128 else spHi k l x 1 * 64 + 63) := ⟨rfl, rfl⟩
theorem sp_four (k : Nat) (l : List Int) (x : Int) : spLo k l x 3 = (if 3 < k then spLo k l x 2 * 64 + g l 3 - 128 else spLo k l x 2 * 64) /\ spHi k l x 3 = (if 3 < k then spHi k l x 2 * 64 + g l 3 - 128 else spHi k l x 2 * 64 + 63) := ⟨rfl, rfl⟩
theorem bg_two (n k : Nat) (l : List Int) (h1 : 1 <= k) (h2 : k <= 2) (hn : k <= n) :
 (cls 2 (g l 0) /\ okC k l 1 /\ room 2 (spLo k l (base (g l 0)) 1) (spHi k l (base (g l 0)) 1)) ↔ (2 = need (g l 0) /\ (k : Int) <= mm n (g l 0) (g l 1) (g l 2) (g l 3)) := by
 rw [okC_three k l 1 (by omega), room_two]
 obtain ⟨s1, s2⟩ := sp_two k l (base (g l 0))
 by_cases hr : 192 <= g l 0 /\ g l 0 < 224
 ·have hx : base (g l 0) = g l 0 - 192 := by unfold base; omega
  have e1 : cls 2 (g l 0) := by unfold cls; omega
  rw [s1, s2, hx]
  clear hx s1 s2
  generalize g l 0 = a at *
  generalize g l 1 = b at *
  generalize g l 2 = c at *
  generalize g l 3 = d at *
  by_cases hc : 194 <= a
  ·have e0 : need a = 2 := by unfold need; omega
   have e2 : lo2 a = 128 := by unfold lo2; omega
   have e3 : hi2 a = 191 := by unfold hi2; omega
   rcases (show k = 1 ∨ k = 2 by omega) with rfl | rfl
   ·have hm := mm_one (n := n) (b := b) (c := c) (d := d) (show need a ≠ 0 by omega)
    simp only [e1, true_and, false_or, if_false, Nat.lt_irrefl]
    omega
   ·have hm := mm_two (n := n) (b := b) (c := c) (d := d) (show need a ≠ 0 by omega) (by omega)
    simp only [e1, true_and, false_or, Nat.reduceLT, if_true]
    omega
  ·have e0 : need a = 0 := by unfold need; omega
   rcases (show k = 1 ∨ k = 2 by omega) with rfl | rfl
   ·simp only [e1, true_and, false_or, if_false, Nat.lt_irrefl]
    omega
   ·simp only [e1, true_and, false_or, Nat.reduceLT, if_true]
    omega
 ·constructor
  ·rintro ⟨c1, -, -⟩
   unfold cls at c1
   omega
  ·rintro ⟨c1, -⟩
   unfold need at c1
   omega
theorem bg_three (n k : Nat) (l : List Int) (h1 : 1 <= k) (h2 : k <= 3) (hn : k <= n) :
 (cls 3 (g l 0) /\ okC k l 2 /\ room 3 (spLo k l (base (g l 0)) 2) (spHi k l (base (g l 0)) 2)) ↔ (3 = need (g l 0) /\ (k : Int) <= mm n (g l 0) (g l 1) (g l 2) (g l 3)) := by
 rw [okC_three k l 2 (by omega), room_three]
 obtain ⟨s1, s2⟩ := sp_two k l (base (g l 0))
 obtain ⟨s3, s4⟩ := sp_three k l (base (g l 0))
 by_cases hr : 224 <= g l 0 /\ g l 0 < 240
 ·have hx : base (g l 0) = g l 0 - 224 := by unfold base; omega
  have e1 : cls 3 (g l 0) := by unfold cls; omega
  rw [s3, s4, s1, s2, hx]
  clear hx s1 s2 s3 s4
  generalize g l 0 = a at *
  generalize g l 1 = b at *
  generalize g l 2 = c at *
  generalize g l 3 = d at *
  have e0 : need a = 3 := by unfold need; omega
  have e2 : (a = 224 /\ lo2 a = 160) ∨ (a ≠ 224 /\ lo2 a = 128) := by unfold lo2; omega
  have e3 : (a = 237 /\ hi2 a = 159) ∨ (a ≠ 237 /\ hi2 a = 191) := by unfold hi2; omega
  rcases (show k = 1 ∨ k = 2 ∨ k = 3 by omega) with rfl | rfl | rfl
  ·have hm := mm_one (n := n) (b := b) (c := c) (d := d) (show need a ≠ 0 by omega)
   simp only [e1, true_and, false_or, if_false, Nat.lt_irrefl, Nat.reduceLT]
   omega
  ·have hm := mm_two (n := n) (b := b) (c := c) (d := d) (show need a ≠ 0 by omega) (by omega)
   simp only [e1, true_and, false_or, Nat.reduceLT, if_true, if_false, Nat.lt_irrefl]
   omega
  ·have hm := mm_three (n := n) (b := b) (c := c) (d := d) (Or.inl e0) (by omega)
   simp only [e1, true_and, false_or, Nat.reduceLT, if_true]
   omega
 ·constructor
  ·rintro ⟨c1, -, -⟩
   unfold cls at c1
   omega
  ·rintro ⟨c1, -⟩
   unfold need at c1
   omega
theorem bg_four (n k : Nat) (l : List Int) (h1 : 1 <= k) (h2 : k <= 4) (hn : k <= n) :
 (cls 4 (g l 0) /\ okC k l 3 /\ room 4 (spLo k l (base (g l 0)) 3) (spHi k l (base (g l 0)) 3)) ↔ (4 = need (g l 0) /\ (k : Int) <= mm n (g l 0) (g l 1) (g l 2) (g l 3)) := by
 rw [okC_three k l 3 (by omega), room_four]
 obtain ⟨s1, s2⟩ := sp_two k l (base (g l 0))
 obtain ⟨s3, s4⟩ := sp_three k l (base (g l 0))
 obtain ⟨s5, s6⟩ := sp_four k l (base (g l 0))
 by_cases hr : 240 <= g l 0 /\ g l 0 < 248
 ·have hx : base (g l 0) = g l 0 - 240 := by unfold base; omega
  have e1 : cls 4 (g l 0) := by unfold cls; omega
  rw [s5, s6, s3, s4, s1, s2, hx]
  clear hx s1 s2 s3 s4 s5 s6
  generalize g l 0 = a at *
  generalize g l 1 = b at *
  generalize g l 2 = c at *
  generalize g l 3 = d at *
  by_cases hc : a < 245
  ·have e0 : need a = 4 := by unfold need; omega
   have e2 : (a = 240 /\ lo2 a = 144) ∨ (a ≠ 240 /\ lo2 a = 128) := by unfold lo2; omega
   have e3 : (a = 244 /\ hi2 a = 143) ∨ (a ≠ 244 /\ hi2 a = 191) := by unfold hi2; omega
   rcases (show k = 1 ∨ k = 2 ∨ k = 3 ∨ k = 4 by omega) with rfl | rfl | rfl | rfl
   ·have hm := mm_one (n := n) (b := b) (c := c) (d := d) (show need a ≠ 0 by omega)
    simp only [e1, true_and, false_or, if_false, Nat.lt_irrefl, Nat.reduceLT]
    omega
   ·have hm := mm_two (n := n) (b := b) (c := c) (d := d) (show need a ≠ 0 by omega) (by omega)
    simp only [e1, true_and, false_or, Nat.reduceLT, if_true, if_false, Nat.lt_irrefl]
    omega
   ·have hm := mm_three (n := n) (b := b) (c := c) (d := d) (Or.inr e0) (by omega)
    simp only [e1, true_and, false_or, Nat.reduceLT, if_true, if_false, Nat.lt_irrefl]
    omega
   ·have hm := mm_four (n := n) (b := b) (c := c) (d := d) e0 (by omega)
    simp only [e1, true_and, false_or, Nat.reduceLT, if_true]
    omega
  ·have e0 : need a = 0 := by unfold need; omega
   rcases (show k = 1 ∨ k = 2 ∨ k = 3 ∨ k = 4 by omega) with rfl | rfl | rfl | rfl
   all_goals
    simp only [e1, true_and, false_or, if_false, if_true, Nat.lt_irrefl, Nat.reduceLT]
    omega
 ·constructor
  ·rintro ⟨c1, -, -⟩
   unfold cls at c1
   omega
  ·rintro ⟨c1, -⟩
   unfold need at c1
   omega
end Ru
end Go.Proofs.Ytaofkaehhikfaaa
namespace Go.Proofs.Ytaofkaehhikfaaa
open Go.RowKit
def Spanned (k L : Nat) (l : List Int) (w : World) (e : Ending) (w' : World) : Prop :=
 (Ru.cls L (Ru.g l 0) /\ Ru.okC k l (L - 1) -> e = .returned (.tuple #[.int .i64 (Ru.spLo k l (Ru.base (Ru.g l 0)) (L - 1)), .int .i64 (Ru.spHi k l (Ru.base (Ru.g l 0)) (L - 1))])) /\
 (¬ (Ru.cls L (Ru.g l 0) /\ Ru.okC k l (L - 1)) -> e = .returned (.tuple #[.int .i64 (-1), .int .i64 (-1)])) /\ w = w'
def SpanAt (k L : Nat) (l : List Int) (v7 v8 v9 : Value) : Prop :=
 ∃ j : Nat, j + 1 <= L /\ v9 = .int .i64 ((j + 1 : Nat) : Int) /\ v7 = .int .i64 (Ru.spLo k l (Ru.base (Ru.g l 0)) j) /\ v8 = .int .i64 (Ru.spHi k l (Ru.base (Ru.g l 0)) j) /\ Hid (Ru.okC k l j)
theorem span_loop (k L : Nat) (l : List Int) (hL : 2 <= L /\ L <= 4) (hc : Ru.cls L (Ru.g l 0)) (j : Nat) (hj : j + 1 <= L) (ho : Ru.okC k l j) :
 0 <= Ru.spLo k l (Ru.base (Ru.g l 0)) j /\ Ru.spLo k l (Ru.base (Ru.g l 0)) j <= Ru.spHi k l (Ru.base (Ru.g l 0)) j /\ Ru.spHi k l (Ru.base (Ru.g l 0)) j <= 8388607 := by
 have hb : 0 <= Ru.base (Ru.g l 0) /\ Ru.base (Ru.g l 0) <= 31 := by unfold Ru.cls at hc; unfold Ru.base; omega
 have h1 := Ru.sp_bounds (k := k) (l := l) hb.1 hb.2 j (by omega) ho
 have h2 := Ru.pow_three (i := j) (by omega)
 omega
theorem span_yes {k : Nat} {l : List Int} {x : Int} {j : Nat} (h : j + 1 < k) : Ru.spLo k l x (j + 1) = Ru.spLo k l x j * 64 + Ru.g l (j + 1) - 128 /\ Ru.spHi k l x (j + 1) = Ru.spHi k l x j * 64 + Ru.g l (j + 1) - 128 := by
 rw [Ru.spLo, Ru.spHi, if_pos h, if_pos h]; exact ⟨rfl, rfl⟩
theorem span_not {k : Nat} {l : List Int} {x : Int} {j : Nat} (h : ¬ j + 1 < k) : Ru.spLo k l x (j + 1) = Ru.spLo k l x j * 64 /\ Ru.spHi k l x (j + 1) = Ru.spHi k l x j * 64 + 63 := by
 rw [Ru.spLo, Ru.spHi, if_neg h, if_neg h]; exact ⟨rfl, rfl⟩
theorem span_two (k : Nat) (l : List Int) (b off cap : Nat) (w : World) (h1 : 1 <= k) (hl : Ru.By l) (hm : k <= 9223372036854775807) (hp : ∀ j, j < k -> w.cell? ⟨b, off + j, none⟩ = some (.int .u8 (Ru.g l j))) :
 Calls Try.prog 104 #[.slice (some ⟨b, off, none⟩) k cap, .int .i64 2] w (Spanned k 2 l w) := by
 have h0 := hp 0 (by omega)
 rw [Nat.add_zero] at h0
 have y0 := hl.at_ 0
 by_cases c1 : 192 <= Ru.g l 0
 ·by_cases c2 : Ru.g l 0 < 224
  ·have hc : Ru.cls 2 (Ru.g l 0) := by unfold Ru.cls; omega
   have hx : Ru.base (Ru.g l 0) = Ru.g l 0 - 192 := by unfold Ru.base; omega
   have HX := Lib.hid hx
   have HC := Lib.hid hc
   have HP := Lib.hid hp
   have HL := Lib.hid hl
   clear hx hc hp hl
   go_enter Try.func104, Try.ntmps104
   go_wp2_with fail
   go_loop [7, 8, 9] (fun v7 v8 v9 => SpanAt k 2 l v7 v8 v9) (fun _ _ v9 => 2 - (RowKit.intOf v9).toNat)
   case atStart => exact ⟨0, by omega, rfl, by rw [Ru.spLo, HX.out], by rw [Ru.spHi, HX.out], Lib.hid (Ru.okC_zero _ _)⟩
   case round =>
    obtain ⟨j, hj, rfl, rfl, rfl, ho⟩ := hrel
    have hbd := span_loop k 2 l (by omega) HC.out j (by omega) ho.out
    obtain ⟨q1, q2, q3⟩ := hbd
    by_cases hlt : j + 1 < 2
    ·by_cases hk : j + 1 < k
     ·have hcell := HP.out (j + 1) hk
      have hy := HL.out.at_ (j + 1)
      obtain ⟨p1, p2⟩ := hy
      have HN := Lib.hid (span_yes (l := l) (x := Ru.base (Ru.g l 0)) hk)
      generalize Ru.spLo k l (Ru.base (Ru.g l 0)) j = lo at *
      generalize Ru.spHi k l (Ru.base (Ru.g l 0)) j = hi at *
      clear HP HL HC HX
      by_cases d1 : Ru.g l (j + 1) < 128
      ·go_wp2_with fail
       go_ret2
       exact ⟨fun h => absurd (h.2 (j + 1) (by omega) (by omega) hk) (by omega), fun _ => rfl, rfl⟩
      ·by_cases d2 : 191 < Ru.g l (j + 1)
       ·go_wp2_with fail
        go_ret2
        exact ⟨fun h => absurd (h.2 (j + 1) (by omega) (by omega) hk) (by omega), fun _ => rfl, rfl⟩
       ·go_wp2_with fail
        go_round
        case rel => exact ⟨j + 1, by omega, by go_num, congrArg (Value.int .i64) (by rw [HN.out.1]), congrArg (Value.int .i64) (by rw [HN.out.2]), Lib.hid (Ru.okC_next ho.out fun _ => by omega)⟩
        case measure => simp [RowKit.intOf]; omega
     ·have HN := Lib.hid (span_not (l := l) (x := Ru.base (Ru.g l 0)) hk)
      generalize Ru.spLo k l (Ru.base (Ru.g l 0)) j = lo at *
      generalize Ru.spHi k l (Ru.base (Ru.g l 0)) j = hi at *
      clear HP HL HC HX
      go_wp2_with fail
      go_round
      case rel => exact ⟨j + 1, by omega, by go_num, congrArg (Value.int .i64) (by rw [HN.out.1]), congrArg (Value.int .i64) (by rw [HN.out.2]), Lib.hid (Ru.okC_next ho.out fun h => absurd h hk)⟩
      case measure => simp [RowKit.intOf]; omega
    ·obtain rfl : j = 2 - 1 := by omega
     clear HP HL HX
     go_wp2_with fail
     go_ret2
     exact ⟨fun _ => rfl, fun h => absurd ⟨HC.out, ho.out⟩ h, rfl⟩
  ·go_enter Try.func104, Try.ntmps104
   go_wp2_with fail
   go_ret2
   exact ⟨fun h => absurd h.1 (by unfold Ru.cls; omega), fun _ => rfl, rfl⟩
 ·go_enter Try.func104, Try.ntmps104
  go_wp2_with fail
  go_ret2
  exact ⟨fun h => absurd h.1 (by unfold Ru.cls; omega), fun _ => rfl, rfl⟩
theorem span_three (k : Nat) (l : List Int) (b off cap : Nat) (w : World) (h1 : 1 <= k) (hl : Ru.By l) (hm : k <= 9223372036854775807) (hp : ∀ j, j < k -> w.cell? ⟨b, off + j, none⟩ = some (.int .u8 (Ru.g l j))) :
 Calls Try.prog 104 #[.slice (some ⟨b, off, none⟩) k cap, .int .i64 3] w (Spanned k 3 l w) := by
 have h0 := hp 0 (by omega)
 rw [Nat.add_zero] at h0
 have y0 := hl.at_ 0
 by_cases c1 : 224 <= Ru.g l 0
 ·by_cases c2 : Ru.g l 0 < 240
  ·have hc : Ru.cls 3 (Ru.g l 0) := by unfold Ru.cls; omega
   have hx : Ru.base (Ru.g l 0) = Ru.g l 0 - 224 := by unfold Ru.base; omega
   have HX := Lib.hid hx
   have HC := Lib.hid hc
   have HP := Lib.hid hp
   have HL := Lib.hid hl
   clear hx hc hp hl
   go_enter Try.func104, Try.ntmps104
   go_wp2_with fail
   go_loop [7, 8, 9] (fun v7 v8 v9 => SpanAt k 3 l v7 v8 v9) (fun _ _ v9 => 3 - (RowKit.intOf v9).toNat)
   case atStart => exact ⟨0, by omega, rfl, by rw [Ru.spLo, HX.out], by rw [Ru.spHi, HX.out], Lib.hid (Ru.okC_zero _ _)⟩
   case round =>
    obtain ⟨j, hj, rfl, rfl, rfl, ho⟩ := hrel
    have hbd := span_loop k 3 l (by omega) HC.out j (by omega) ho.out
    obtain ⟨q1, q2, q3⟩ := hbd
    by_cases hlt : j + 1 < 3
    ·by_cases hk : j + 1 < k
     ·have hcell := HP.out (j + 1) hk
      have hy := HL.out.at_ (j + 1)
      obtain ⟨p1, p2⟩ := hy
      have HN := Lib.hid (span_yes (l := l) (x := Ru.base (Ru.g l 0)) hk)
      generalize Ru.spLo k l (Ru.base (Ru.g l 0)) j = lo at *
      generalize Ru.spHi k l (Ru.base (Ru.g l 0)) j = hi at *
      clear HP HL HC HX
      by_cases d1 : Ru.g l (j + 1) < 128
      ·go_wp2_with fail
       go_ret2
       exact ⟨fun h => absurd (h.2 (j + 1) (by omega) (by omega) hk) (by omega), fun _ => rfl, rfl⟩
      ·by_cases d2 : 191 < Ru.g l (j + 1)
       ·go_wp2_with fail
        go_ret2
        exact ⟨fun h => absurd (h.2 (j + 1) (by omega) (by omega) hk) (by omega), fun _ => rfl, rfl⟩
       ·go_wp2_with fail
        go_round
        case rel => exact ⟨j + 1, by omega, by go_num, congrArg (Value.int .i64) (by rw [HN.out.1]), congrArg (Value.int .i64) (by rw [HN.out.2]), Lib.hid (Ru.okC_next ho.out fun _ => by omega)⟩
        case measure => simp [RowKit.intOf]; omega
     ·have HN := Lib.hid (span_not (l := l) (x := Ru.base (Ru.g l 0)) hk)
      generalize Ru.spLo k l (Ru.base (Ru.g l 0)) j = lo at *
      generalize Ru.spHi k l (Ru.base (Ru.g l 0)) j = hi at *
      clear HP HL HC HX
      go_wp2_with fail
      go_round
      case rel => exact ⟨j + 1, by omega, by go_num, congrArg (Value.int .i64) (by rw [HN.out.1]), congrArg (Value.int .i64) (by rw [HN.out.2]), Lib.hid (Ru.okC_next ho.out fun h => absurd h hk)⟩
      case measure => simp [RowKit.intOf]; omega
    ·obtain rfl : j = 3 - 1 := by omega
     clear HP HL HX
     go_wp2_with fail
     go_ret2
     exact ⟨fun _ => rfl, fun h => absurd ⟨HC.out, ho.out⟩ h, rfl⟩
  ·go_enter Try.func104, Try.ntmps104
   go_wp2_with fail
   go_ret2
   exact ⟨fun h => absurd h.1 (by unfold Ru.cls; omega), fun _ => rfl, rfl⟩
 ·go_enter Try.func104, Try.ntmps104
  go_wp2_with fail
  go_ret2
  exact ⟨fun h => absurd h.1 (by unfold Ru.cls; omega), fun _ => rfl, rfl⟩
theorem span_four (k : Nat) (l : List Int) (b off cap : Nat) (w : World) (h1 : 1 <= k) (hl : Ru.By l) (hm : k <= 9223372036854775807) (hp : ∀ j, j < k -> w.cell? ⟨b, off + j, none⟩ = some (.int .u8 (Ru.g l j))) :
 Calls Try.prog 104 #[.slice (some ⟨b, off, none⟩) k cap, .int .i64 4] w (Spanned k 4 l w) := by
 have h0 := hp 0 (by omega)
 rw [Nat.add_zero] at h0
 have y0 := hl.at_ 0
 by_cases c1 : 240 <= Ru.g l 0
 ·by_cases c2 : Ru.g l 0 < 248
  ·have hc : Ru.cls 4 (Ru.g l 0) := by unfold Ru.cls; omega
   have hx : Ru.base (Ru.g l 0) = Ru.g l 0 - 240 := by unfold Ru.base; omega
   have HX := Lib.hid hx
   have HC := Lib.hid hc
   have HP := Lib.hid hp
   have HL := Lib.hid hl
   clear hx hc hp hl
   go_enter Try.func104, Try.ntmps104
   go_wp2_with fail
   go_loop [7, 8, 9] (fun v7 v8 v9 => SpanAt k 4 l v7 v8 v9) (fun _ _ v9 => 4 - (RowKit.intOf v9).toNat)
   case atStart => exact ⟨0, by omega, rfl, by rw [Ru.spLo, HX.out], by rw [Ru.spHi, HX.out], Lib.hid (Ru.okC_zero _ _)⟩
   case round =>
    obtain ⟨j, hj, rfl, rfl, rfl, ho⟩ := hrel
    have hbd := span_loop k 4 l (by omega) HC.out j (by omega) ho.out
    obtain ⟨q1, q2, q3⟩ := hbd
    by_cases hlt : j + 1 < 4
    ·by_cases hk : j + 1 < k
     ·have hcell := HP.out (j + 1) hk
      have hy := HL.out.at_ (j + 1)
      obtain ⟨p1, p2⟩ := hy
      have HN := Lib.hid (span_yes (l := l) (x := Ru.base (Ru.g l 0)) hk)
      generalize Ru.spLo k l (Ru.base (Ru.g l 0)) j = lo at *
      generalize Ru.spHi k l (Ru.base (Ru.g l 0)) j = hi at *
      clear HP HL HC HX
      by_cases d1 : Ru.g l (j + 1) < 128
      ·go_wp2_with fail
       go_ret2
       exact ⟨fun h => absurd (h.2 (j + 1) (by omega) (by omega) hk) (by omega), fun _ => rfl, rfl⟩
      ·by_cases d2 : 191 < Ru.g l (j + 1)
       ·go_wp2_with fail
        go_ret2
        exact ⟨fun h => absurd (h.2 (j + 1) (by omega) (by omega) hk) (by omega), fun _ => rfl, rfl⟩
       ·go_wp2_with fail
        go_round
        case rel => exact ⟨j + 1, by omega, by go_num, congrArg (Value.int .i64) (by rw [HN.out.1]), congrArg (Value.int .i64) (by rw [HN.out.2]), Lib.hid (Ru.okC_next ho.out fun _ => by omega)⟩
        case measure => simp [RowKit.intOf]; omega
     ·have HN := Lib.hid (span_not (l := l) (x := Ru.base (Ru.g l 0)) hk)
      generalize Ru.spLo k l (Ru.base (Ru.g l 0)) j = lo at *
      generalize Ru.spHi k l (Ru.base (Ru.g l 0)) j = hi at *
      clear HP HL HC HX
      go_wp2_with fail
      go_round
      case rel => exact ⟨j + 1, by omega, by go_num, congrArg (Value.int .i64) (by rw [HN.out.1]), congrArg (Value.int .i64) (by rw [HN.out.2]), Lib.hid (Ru.okC_next ho.out fun h => absurd h hk)⟩
      case measure => simp [RowKit.intOf]; omega
    ·obtain rfl : j = 4 - 1 := by omega
     clear HP HL HX
     go_wp2_with fail
     go_ret2
     exact ⟨fun _ => rfl, fun h => absurd ⟨HC.out, ho.out⟩ h, rfl⟩
  ·go_enter Try.func104, Try.ntmps104
   go_wp2_with fail
   go_ret2
   exact ⟨fun h => absurd h.1 (by unfold Ru.cls; omega), fun _ => rfl, rfl⟩
 ·go_enter Try.func104, Try.ntmps104
  go_wp2_with fail
  go_ret2
  exact ⟨fun h => absurd h.1 (by unfold Ru.cls; omega), fun _ => rfl, rfl⟩
end Go.Proofs.Ytaofkaehhikfaaa
