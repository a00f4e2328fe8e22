/-
  Plain: two sheets with a white space between. No run of the program in this text.
-/
import Derived.Test.YtppgklmliklkkaaDoorGn
import Derived.Test.YtppgklmliklkkaaDoorGy0
import Derived.Test.YtppgklmliklkkaaDoorGh
namespace Go.Proofs.YtppgklmliklkkaaDoor
namespace Fx
namespace Bl
/-- the byte there ends every decimal -/
def Ends (L : List UInt8) (m : Nat) : Prop := at' L m = 32
theorem ends_isD {L : List UInt8} {m : Nat} (h : Ends L m) : isD (at' L m) = false := by rw [show at' L m = 32 from h]; decide
theorem ends_ne {L : List UInt8} {m : Nat} (h : Ends L m) {c : UInt8} (h1 : c ≠ 32) : at' L m ≠ c := by
  rw [show at' L m = 32 from h]
  exact fun e => h1 e.symm
theorem dig_stop {L : List UInt8} {m : Nat} (h : Ends L m) : ∀ n a, n = m - a → a ≤ m → dig L a ≤ m
  | 0, a, hn, ha => by
    have : a = m := by omega
    subst this
    rw [dig_no L a (ends_isD h)]; exact Nat.le_refl _
  | n + 1, a, hn, ha => by
    cases hd : isD (at' L a)
    · rw [dig_no L a hd]; exact ha
    · have hne : a ≠ m := fun e => by rw [e, ends_isD h] at hd; cases hd
      rw [dig_yes L a hd]
      exact dig_stop h n (a + 1) (by omega) (by omega)
theorem dig_cut {L : List UInt8} {m a : Nat} (h : Ends L m) (ha : a ≤ m) : dig (L.take m) a = dig L a := by
  rw [dig_take' L ha]
  have := dig_stop h _ a rfl ha
  omega
theorem at_cut {L : List UInt8} {m a : Nat} (h : Ends L m) (ha : a ≤ m) {c : UInt8} (h1 : c ≠ 32) (h2 : c ≠ 0) : at' (L.take m) a = c ↔ at' L a = c := by
  by_cases hlt : a < m
  · rw [at_take L hlt]
  · have : a = m := by omega
    subst this
    rw [at_take_past L (Nat.le_refl _)]
    exact ⟨fun e => absurd e.symm h2, fun e => absurd e (ends_ne h h1)⟩
theorem sgn_cut {L : List UInt8} {m a : Nat} (h : Ends L m) (ha : a ≤ m) : sgn (L.take m) a = sgn L a ∧ sgn L a ≤ m := by
  unfold sgn
  have e1 := at_cut h ha (c := 43) (by decide) (by decide)
  have e2 := at_cut h ha (c := 45) (by decide) (by decide)
  by_cases c : at' L a = 43 ∨ at' L a = 45
  · rw [if_pos c, if_pos (by rw [e1, e2]; exact c)]
    refine ⟨rfl, ?_⟩
    by_cases hlt : a < m
    · omega
    · have : a = m := by omega
      subst this
      rcases c with c | c
      · exact absurd c (ends_ne h (by decide))
      · exact absurd c (ends_ne h (by decide))
  · rw [if_neg c, if_neg (by rw [e1, e2]; exact c)]
    exact ⟨rfl, ha⟩
theorem spDof_cut {L : List UInt8} {m w : Nat} (h : Ends L m) (hw : w ≤ m) : spDof (L.take m) w = spDof L w ∧ spDof L w ≤ m := by
  have e1 := at_cut h hw (c := 46) (by decide) (by decide)
  by_cases c : at' L w = 46
  · have hlt : w < m := by
      by_cases hlt : w < m
      · exact hlt
      · have : w = m := by omega
        subst this
        exact absurd c (ends_ne h (by decide))
    have e2 := dig_cut h (show w + 1 ≤ m by omega)
    have e3 := dig_stop h _ (w + 1) rfl (by omega)
    unfold spDof
    by_cases c2 : w + 1 < dig L (w + 1)
    · rw [if_pos ⟨e1.2 c, by rw [e2]; exact c2⟩, if_pos ⟨c, c2⟩, e2]; exact ⟨rfl, e3⟩
    · rw [if_neg (fun hh => c2 (by rw [← e2]; exact hh.2)), if_neg (fun hh => c2 hh.2)]; exact ⟨rfl, hw⟩
  · unfold spDof
    rw [if_neg (fun hh => c (e1.1 hh.1)), if_neg (fun hh => c hh.1)]
    exact ⟨rfl, hw⟩
theorem spEof_cut {L : List UInt8} {m d : Nat} (h : Ends L m) (hd : d ≤ m) : spEof (L.take m) d = spEof L d ∧ spEof L d ≤ m := by
  have e1 := at_cut h hd (c := 101) (by decide) (by decide)
  have e2 := at_cut h hd (c := 69) (by decide) (by decide)
  by_cases c : at' L d = 101 ∨ at' L d = 69
  · have hlt : d < m := by
      by_cases hlt : d < m
      · exact hlt
      · have : d = m := by omega
        subst this
        rcases c with c | c
        · exact absurd c (ends_ne h (by decide))
        · exact absurd c (ends_ne h (by decide))
    have e3 := sgn_cut h (show d + 1 ≤ m by omega)
    have e4 := dig_cut h e3.2
    have e5 := dig_stop h _ (sgn L (d + 1)) rfl e3.2
    have c' : at' (L.take m) d = 101 ∨ at' (L.take m) d = 69 := by rw [e1, e2]; exact c
    unfold spEof
    rw [e3.1, e4]
    by_cases c2 : sgn L (d + 1) < dig L (sgn L (d + 1))
    · rw [if_pos ⟨c', c2⟩, if_pos ⟨c, c2⟩]; exact ⟨rfl, e5⟩
    · rw [if_neg (fun hh => c2 hh.2), if_neg (fun hh => c2 hh.2)]; exact ⟨rfl, hd⟩
  · unfold spEof
    rw [if_neg (fun hh => c (by have := hh.1; rw [e1, e2] at this; exact this)), if_neg (fun hh => c hh.1)]
    exact ⟨rfl, hd⟩
theorem len_cut {L : List UInt8} {m : Nat} (h : Ends L m) : len (L.take m) = len L ∧ len L ≤ m := by
  have s := sgn_cut h (Nat.zero_le m)
  have w := dig_cut h s.2
  have w2 := dig_stop h _ (sgn L 0) rfl s.2
  have d := spDof_cut h w2
  have e := spEof_cut h d.2
  have es : spS (L.take m) = spS L := s.1
  have ew : spW (L.take m) = spW L := by unfold spW; rw [es]; exact w
  have ed : spD (L.take m) = spD L := by unfold spD; rw [ew]; exact d.1
  have ee : spE (L.take m) = spE L := by unfold spE; rw [ed]; exact e.1
  unfold len
  rw [es, ed, ee]
  refine ⟨rfl, ?_⟩
  split
  · omega
  · exact e.2
end Bl
end Fx
namespace Ru
/-- bytes that TokenParts lets in -/
def PtB (c : Int) : Prop := 0 ≤ c ∧ c < 128 ∧ c ≠ 13 ∧ c ≠ 34 ∧ c ≠ 39 ∧ c ≠ 92 ∧ c ≠ 47
theorem rd_pt1 {c : Int} (h : PtB c) (x : List Int) : rd (c :: x) = plain c :: rd x := by
  obtain ⟨h0, h1, h3, _⟩ := h
  have he := enc_one (c := c) (by omega) (by omega) (c :: x).length (g (c :: x) 1) (g (c :: x) 2) (g (c :: x) 3)
  have hc : chL (c :: x) = c := he.1
  have hw : wdL (c :: x) = 1 := by unfold wdL; rw [show g (c :: x) 0 = c from rfl, he.2]; rfl
  have hs : st (c :: x) = 1 := by unfold st; rw [if_neg (by rw [hc]; omega), hw]
  rw [rd_cons (by simp), hc, hs]; rfl
theorem rd_pt : ∀ (a : List Int), (∀ c ∈ a, PtB c) → ∀ x, rd (a ++ x) = a.map plain ++ rd x
  | [], _, x => rfl
  | c :: a, h, x => by
    rw [List.cons_append, rd_pt1 (h c (by simp)), rd_pt a (fun d hd => h d (by simp [hd]))]; rfl
theorem rd_parts' {a b : List Int} (ha : ∀ c ∈ a, PtB c) : rd (a ++ 32 :: b) = rd a ++ 32 :: rd b := by
  have e1 := rd_pt a ha []
  rw [List.append_nil, rd_nil, List.append_nil] at e1
  rw [rd_pt a ha, rd_pt1 (c := 32) (by unfold PtB; omega), e1]; rfl
end Ru
namespace Tk
open Ru
/-- characters that TokenParts lets in -/
def Rst (l : List Int) : Prop := ∀ c ∈ l, 0 ≤ c ∧ c ≠ 34 ∧ c ≠ 39 ∧ c ≠ 92 ∧ c ≠ 47
theorem rst_rd {a : List Int} (h : ∀ c ∈ a, PtB c) : Rst (rd a) := by
  have e1 := rd_pt a h []
  rw [List.append_nil, rd_nil, List.append_nil] at e1
  rw [e1]
  intro c hc
  obtain ⟨d, hd, rfl⟩ := List.mem_map.1 hc
  have := h d hd
  unfold PtB at this
  unfold plain
  split
  · omega
  · split <;> omega
theorem Rst.g {l : List Int} (h : Rst l) {k : Nat} (hk : k < l.length) : 0 ≤ g l k ∧ g l k ≠ 34 ∧ g l k ≠ 39 ∧ g l k ≠ 92 ∧ g l k ≠ 47 := by
  rw [g_eq hk]; exact h _ (List.getElem_mem hk)
theorem Rst.at_ {l : List Int} (h : Rst l) (k : Nat) : at' l k ≠ 92 ∧ at' l k ≠ 47 := by
  by_cases hk : k < l.length
  · rw [at_in hk]; have := h.g hk; omega
  · rw [at_out hk]; omega
theorem Rst.esc {l : List Int} (h : Rst l) (k : Nat) : esc l k = false := by
  unfold Tk.esc; apply decide_eq_false; exact fun hh => (h.at_ k).1 hh.1
theorem Rst.opn {l : List Int} (h : Rst l) (k : Nat) : opn l k = false := by
  unfold Tk.opn; apply decide_eq_false; exact fun hh => (h.at_ k).2 hh.1
theorem Rst.one {l : List Int} (h : Rst l) (k : Nat) : oneN l k = (at' l k, k + 1) := by
  unfold oneN; rw [if_neg (h.at_ k).1]
theorem Rst.app {a b : List Int} (ha : Rst a) (hb : Rst b) : Rst (a ++ 32 :: b) := by
  intro c hc
  rcases List.mem_append.1 hc with hc | hc
  · exact ha c hc
  · rcases List.mem_cons.1 hc with rfl | hc
    · omega
    · exact hb c hc

/-! ### the first sheet -/
section
variable {A B : List Int}
theorem at_fst {j : Nat} (h : j < A.length) : at' (A ++ 32 :: B) j = at' A j := by
  rw [at_in (by simp; omega), at_in h, g_left h]
theorem at_mid : at' (A ++ 32 :: B) A.length = 32 := by
  rw [at_in (by simp), g_mid]; rfl
theorem at_two {j : Nat} (h : j ≤ A.length) : at' (A ++ 32 :: B) j = at' A j ∨ (at' (A ++ 32 :: B) j = 32 ∧ at' A j = -1) := by
  by_cases c : j < A.length
  · exact .inl (at_fst c)
  · have : j = A.length := by omega
    subst this
    exact .inr ⟨at_mid, at_out (by omega)⟩
theorem wit_two {j : Nat} (h : j ≤ A.length) : witB (at' (A ++ 32 :: B) j) = witB (at' A j) := by
  rcases at_two (B := B) h with e | ⟨e1, e2⟩
  · rw [e]
  · rw [e1, e2]; rfl
theorem beg_two {j : Nat} (h : j ≤ A.length) : begB (at' (A ++ 32 :: B) j) = begB (at' A j) := by
  rcases at_two (B := B) h with e | ⟨e1, e2⟩
  · rw [e]
  · rw [e1, e2]; rfl
theorem eq_two {j : Nat} (h : j ≤ A.length) {c : Int} (h1 : c ≠ 32) (h2 : c ≠ -1) : (at' (A ++ 32 :: B) j = c) = (at' A j = c) := by
  rcases at_two (B := B) h with e | ⟨e1, e2⟩
  · rw [e]
  · rw [e1, e2]; exact propext ⟨fun e => absurd e.symm h1, fun e => absurd e.symm h2⟩
variable (ha : Rst A) (hb : Rst B)
include ha hb
theorem inN_two {j : Nat} (h : j ≤ A.length) : inN (A ++ 32 :: B) j = inN A j := by
  unfold inN; rw [(ha.app hb).esc, ha.esc, wit_two h]
theorem begs_two {j : Nat} (h : j ≤ A.length) : begs (A ++ 32 :: B) j = begs A j := by
  by_cases c : j < A.length
  · have e1 := eq_two (B := B) (show j + 1 ≤ A.length from c) (c := 45) (by decide) (by decide)
    unfold begs may
    rw [(ha.app hb).esc, (ha.app hb).esc, ha.esc, ha.esc, beg_two h, beg_two (show j + 1 ≤ A.length from c), at_fst c]
    simp only [e1]
  · have : j = A.length := by omega
    subst this
    unfold begs may
    rw [(ha.app hb).esc, ha.esc, at_mid, at_out (l := A) (k := A.length) (by omega)]
    rfl
theorem name_two : ∀ (m j : Nat), A.length - j ≤ m → j ≤ A.length → name (A ++ 32 :: B) j = name A j
  | m, j, hm, hj => by
    cases hi : inN A j
    · rw [name_no hi, name_no (by rw [inN_two ha hb hj]; exact hi)]
    · have hlt := inN_lt hi
      match m, hm with
      | 0, hm => omega
      | m + 1, hm =>
        have ih := name_two m (j + 1) (by omega) (by omega)
        rw [name_yes hi, name_yes (by rw [inN_two ha hb hj]; exact hi), ha.one, (ha.app hb).one, at_fst hlt]
        simp only
        rw [ih]
omit ha hb in
theorem num_two {k : Nat} (hk : k ≤ A.length) : nlen (A ++ 32 :: B) k = nlen A k ∧ nval (A ++ 32 :: B) k = nval A k := by
  have hd : (A ++ 32 :: B).drop k = A.drop k ++ 32 :: B := by rw [List.drop_append_of_le_length hk]
  have key : ∃ X, numL (A ++ 32 :: B) k = numL A k ++ X ∧ (X = [] ∨ Fx.Bl.Ends (numL (A ++ 32 :: B) k) (numL A k).length) := by
    rw [numL_eq, numL_eq]
    unfold ascL
    rw [hd, List.takeWhile_append]
    split
    · rename_i h
      have hall : (A.drop k).takeWhile (fun c => decide (c < 128)) = A.drop k := (List.takeWhile_sublist _).eq_of_length h
      rw [hall, List.map_append, show (32 :: B).takeWhile (fun c => decide (c < 128)) = 32 :: B.takeWhile (fun c => decide (c < 128)) from rfl]
      refine ⟨_, rfl, .inr ?_⟩
      unfold Fx.Bl.Ends Fx.at'
      rw [List.getD_eq_getElem?_getD, List.getElem?_append_right (Nat.le_refl _)]
      simp [u8]
    · exact ⟨[], by simp, .inl rfl⟩
  obtain ⟨X, hX, h⟩ := key
  rcases h with h | h
  · rw [h, List.append_nil] at hX
    unfold nval nlen
    rw [hX]
    exact ⟨rfl, rfl⟩
  · have h1 := Fx.Bl.len_cut h
    have h2 : (numL (A ++ 32 :: B) k).take (numL A k).length = numL A k := by rw [hX, List.take_append_of_le_length (Nat.le_refl _), List.take_of_length_le (Nat.le_refl _)]
    rw [h2] at h1
    unfold nval nlen
    rw [← h1.1]
    refine ⟨rfl, ?_⟩
    congr 1
    rw [hX, List.take_append_of_le_length (by rw [h1.1]; exact h1.2)]
theorem nxt_two {k : Nat} (hk : k < A.length) : nxt (A ++ 32 :: B) k = nxt A k := by
  have hg : g (A ++ 32 :: B) k = g A k := g_left hk
  have hq := ha.g hk
  have q1 : ¬ (g A k = 34 ∨ g A k = 39) := by omega
  obtain ⟨n1, n2⟩ := num_two (A := A) (B := B) (Nat.le_of_lt hk)
  have hle := nlen_le A k (Nat.le_of_lt hk)
  have w1 := wit_two (B := B) (show k + 1 ≤ A.length from hk)
  have e1 : esc (A ++ 32 :: B) (k + 1) = esc A (k + 1) := by rw [(ha.app hb).esc, ha.esc]
  have m1 := name_two ha hb _ (k + 1) (Nat.le_refl _) hk
  have m0 := name_two ha hb _ k (Nat.le_refl _) (Nat.le_of_lt hk)
  have mn := name_two ha hb _ (k + nlen A k) (Nat.le_refl _) hle
  have b1 := begs_two ha hb (show k + 1 ≤ A.length from hk)
  have b0 := begs_two ha hb (Nat.le_of_lt hk)
  have bn := begs_two ha hb hle
  have c37 := eq_two (B := B) hle (c := 37) (by decide) (by decide)
  have hnm := name_le A _ k (Nat.le_refl _) (Nat.le_of_lt hk)
  have c40 := eq_two (B := B) hnm.2 (c := 40) (by decide) (by decide)
  unfold nxt rest
  simp only [hg, n1, n2, w1, e1, m1, m0, mn, b1, b0, bn, c37, c40, if_neg q1]
/-! ### the second sheet -/
omit ha hb in
theorem at_snd (i : Nat) : at' (A ++ 32 :: B) (A.length + 1 + i) = at' B i := by
  by_cases h : i < B.length
  · rw [at_in (by simp; omega), at_in h]
    unfold g
    rw [List.getD_eq_getElem?_getD, List.getD_eq_getElem?_getD, List.getElem?_append_right (by omega), show A.length + 1 + i - A.length = i + 1 by omega, List.getElem?_cons_succ]
  · rw [at_out (by simp; omega), at_out h]
theorem inN_snd (i : Nat) : inN (A ++ 32 :: B) (A.length + 1 + i) = inN B i := by
  unfold inN; rw [(ha.app hb).esc, hb.esc, at_snd]
theorem begs_snd (i : Nat) : begs (A ++ 32 :: B) (A.length + 1 + i) = begs B i := by
  unfold begs may
  rw [(ha.app hb).esc, (ha.app hb).esc, hb.esc, hb.esc, at_snd, show A.length + 1 + i + 1 = A.length + 1 + (i + 1) by omega, at_snd]
theorem name_snd : ∀ (m i : Nat), B.length - i ≤ m → i ≤ B.length → name (A ++ 32 :: B) (A.length + 1 + i) = ((name B i).1, A.length + 1 + (name B i).2)
  | m, i, hm, hi' => by
    cases hi : inN B i
    · rw [name_no hi, name_no (by rw [inN_snd ha hb]; exact hi)]
    · have hlt := inN_lt hi
      match m, hm with
      | 0, hm => omega
      | m + 1, hm =>
        have ih := name_snd m (i + 1) (by omega) (by omega)
        rw [name_yes hi, name_yes (by rw [inN_snd ha hb]; exact hi), hb.one, (ha.app hb).one, at_snd]
        simp only
        rw [show A.length + 1 + i + 1 = A.length + 1 + (i + 1) by omega, ih]
omit ha hb in
theorem num_snd (i : Nat) : nlen (A ++ 32 :: B) (A.length + 1 + i) = nlen B i ∧ nval (A ++ 32 :: B) (A.length + 1 + i) = nval B i := by
  have hd : (A ++ 32 :: B).drop (A.length + 1 + i) = B.drop i := by
    rw [List.drop_append, List.drop_eq_nil_of_le (by omega), List.nil_append, show A.length + 1 + i - A.length = i + 1 by omega, List.drop_succ_cons]
  have e : numL (A ++ 32 :: B) (A.length + 1 + i) = numL B i := by unfold numL ascL; rw [hd]
  unfold nval nlen
  rw [e]
  exact ⟨rfl, rfl⟩
def shift (p : Nat) (r : Int × ByteArray × Int × Nat) : Int × ByteArray × Int × Nat := (r.1, r.2.1, r.2.2.1, p + r.2.2.2)
theorem nxt_snd {i : Nat} (hi : i < B.length) : nxt (A ++ 32 :: B) (A.length + 1 + i) = shift (A.length + 1) (nxt B i) := by
  have hg : g (A ++ 32 :: B) (A.length + 1 + i) = g B i := by
    rw [← at_in (by simp; omega), at_snd, at_in hi]
  have hq := hb.g hi
  have q1 : ¬ (g B i = 34 ∨ g B i = 39) := by omega
  obtain ⟨n1, n2⟩ := num_snd (A := A) (B := B) i
  have hle := nlen_le B i (Nat.le_of_lt hi)
  have s1 : A.length + 1 + i + 1 = A.length + 1 + (i + 1) := by omega
  have sn : A.length + 1 + i + nlen B i = A.length + 1 + (i + nlen B i) := by omega
  have w1 := at_snd (A := A) (B := B) (i + 1)
  have e1 : esc (A ++ 32 :: B) (A.length + 1 + (i + 1)) = esc B (i + 1) := by rw [(ha.app hb).esc, hb.esc]
  have m1 := name_snd ha hb _ (i + 1) (Nat.le_refl _) hi
  have m0 := name_snd ha hb _ i (Nat.le_refl _) (Nat.le_of_lt hi)
  have mn := name_snd ha hb _ (i + nlen B i) (Nat.le_refl _) hle
  have b1 := begs_snd ha hb (i + 1)
  have b0 := begs_snd ha hb i
  have bn := begs_snd ha hb (i + nlen B i)
  have c37 := at_snd (A := A) (B := B) (i + nlen B i)
  have c40 := at_snd (A := A) (B := B) (name B i).2
  unfold nxt rest
  simp only [hg, n1, n2, s1, sn, w1, e1, m1, m0, mn, b1, b0, bn, c37, c40, if_neg q1]
  clear hg q1 hq n1 n2 hle s1 sn w1 e1 m1 m0 mn b1 b0 bn c37 c40
  generalize name B (i + 1) = x1
  generalize name B i = x2
  generalize name B (i + nlen B i) = x3
  generalize nval B i = v
  generalize nlen B i = n
  have k1 : A.length + 1 + i + 1 = A.length + 1 + (i + 1) := by omega
  have k2 : A.length + 1 + i + n = A.length + 1 + (i + n) := by omega
  have k3 : A.length + 1 + (i + n) + 1 = A.length + 1 + (i + n + 1) := by omega
  by_cases t1 : g B i = 35 ∧ (witB (at' B (i + 1)) = true ∨ esc B (i + 1) = true)
  · rw [if_pos t1, if_pos t1]; rfl
  · rw [if_neg t1, if_neg t1]
    by_cases t2 : numB (g B i) = true ∧ 0 < n
    · rw [if_pos t2, if_pos t2]
      by_cases t3 : begs B (i + n) = true
      · rw [if_pos t3, if_pos t3]; rfl
      · rw [if_neg t3, if_neg t3]
        by_cases t4 : at' B (i + n) = 37
        · rw [if_pos t4, if_pos t4]; rfl
        · rw [if_neg t4, if_neg t4]; rfl
    · rw [if_neg t2, if_neg t2]
      by_cases t3 : g B i = 64 ∧ begs B (i + 1) = true
      · rw [if_pos t3, if_pos t3]; rfl
      · rw [if_neg t3, if_neg t3]
        by_cases t4 : begs B i = true
        · rw [if_pos t4, if_pos t4]
          by_cases t5 : at' B x2.2 = 40
          · rw [if_pos t5, if_pos t5]; rfl
          · rw [if_neg t5, if_neg t5]; rfl
        · rw [if_neg t4, if_neg t4]
          by_cases t5 : g B i = 58
          · rw [if_pos t5, if_pos t5]; rfl
          · rw [if_neg t5, if_neg t5]
            by_cases t6 : g B i = 59
            · rw [if_pos t6, if_pos t6]; rfl
            · rw [if_neg t6, if_neg t6]
              by_cases t7 : g B i = 44
              · rw [if_pos t7, if_pos t7]; rfl
              · rw [if_neg t7, if_neg t7]; rfl
end
end Tk
end Go.Proofs.YtppgklmliklkkaaDoor
