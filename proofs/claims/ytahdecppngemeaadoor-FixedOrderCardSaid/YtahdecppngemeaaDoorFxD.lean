/-
  The walk of split: the parts of the longest decimal with which a text begins.
-/
import Derived.Test.YtahdecppngemeaaDoorFxB
import Derived.Below
namespace Go.Proofs.YtahdecppngemeaaDoor
open Go.RowKit

namespace Fx
def spS (l : List UInt8) : Nat := sgn l 0
def spW (l : List UInt8) : Nat := dig l (spS l)
/-- the place behind the digits -/
def spDof (l : List UInt8) (w : Nat) : Nat := if at' l w = 46 ∧ w + 1 < dig l (w + 1) then dig l (w + 1) else w
def spD (l : List UInt8) : Nat := spDof l (spW l)
/-- the place behind the exponent, if there is one -/
def spEof (l : List UInt8) (d : Nat) : Nat := if (at' l d = 101 ∨ at' l d = 69) ∧ sgn l (d + 1) < dig l (sgn l (d + 1)) then dig l (sgn l (d + 1)) else d
def spE (l : List UInt8) : Nat := spEof l (spD l)

theorem sgn_lo (l : List UInt8) (k : Nat) : k ≤ sgn l k := by unfold sgn; split <;> omega
theorem at_zero {l : List UInt8} {k : Nat} (h : ¬ k < l.length) : at' l k = 0 := by
  unfold at'; rw [List.getD_eq_getElem?_getD, List.getElem?_eq_none (by omega)]; rfl
theorem sgn_hi (l : List UInt8) (k : Nat) (h : k ≤ l.length) : sgn l k ≤ l.length := by
  unfold sgn
  by_cases hk : k < l.length
  · split <;> omega
  · rw [at_zero hk]; simp; exact h
theorem spS_hi (l : List UInt8) : spS l ≤ l.length := sgn_hi l 0 (Nat.zero_le _)
theorem spS_one (l : List UInt8) : spS l ≤ 1 := by unfold spS sgn; split <;> omega
theorem spW_hi (l : List UInt8) : spW l ≤ l.length := dig_hi l _ (spS_hi l)
theorem spW_lo (l : List UInt8) : spS l ≤ spW l := dig_lo l _
theorem spDof_lo (l : List UInt8) (w : Nat) : w ≤ spDof l w := by unfold spDof; split <;> omega
theorem spDof_hi (l : List UInt8) (w : Nat) (h : w ≤ l.length) : spDof l w ≤ l.length := by
  unfold spDof; split
  · rename_i hc
    by_cases hw : w < l.length
    · exact dig_hi l _ (by omega)
    · rw [at_zero hw] at hc; exact absurd hc.1 (by decide)
  · exact h
theorem spD_hi (l : List UInt8) : spD l ≤ l.length := spDof_hi l _ (spW_hi l)
theorem spD_lo (l : List UInt8) : spW l ≤ spD l := spDof_lo l _
theorem spEof_lo (l : List UInt8) (w : Nat) : w ≤ spEof l w := by
  unfold spEof; split
  · have := dig_lo l (sgn l (w + 1)); have := sgn_lo l (w + 1); omega
  · omega
theorem spEof_hi (l : List UInt8) (w : Nat) (h : w ≤ l.length) : spEof l w ≤ l.length := by
  unfold spEof; split
  · rename_i hc
    by_cases hw : w < l.length
    · exact dig_hi l _ (sgn_hi l _ (by omega))
    · rw [at_zero hw] at hc; exact absurd hc.1 (by decide)
  · exact h
theorem spE_hi (l : List UInt8) : spE l ≤ l.length := spEof_hi l _ (spD_hi l)
theorem spE_lo (l : List UInt8) : spD l ≤ spE l := spEof_lo l _

/-- the ways behind the whole digits -/
inductive WayD (s : ByteArray) (w d : Nat) : Prop
  | frac (h : w < s.size) (hb : ((s[w].toNat : Int) == 46) = true) (hd : d = dig s.data.toList (w + 1)) (hl : w + 1 < d)
  | point (h : w < s.size) (hb : ((s[w].toNat : Int) == 46) = true) (hd : dig s.data.toList (w + 1) = w + 1) (hw : d = w)
  | other (h : w < s.size) (hb : ((s[w].toNat : Int) == 46) = false) (hw : d = w)
  | past (h : ¬ w < s.size) (hw : d = w)
theorem wayD (s : ByteArray) (w : Nat) : WayD s w (spDof s.data.toList w) := by
  by_cases h : w < s.size
  · have hg := get_at s w h
    by_cases hb : s[w] = 46
    · have hb' : ((s[w].toNat : Int) == 46) = true := by rw [hb]; rfl
      by_cases hd : w + 1 < dig s.data.toList (w + 1)
      · have e : spDof s.data.toList w = dig s.data.toList (w + 1) := by unfold spDof; rw [hg, hb, if_pos ⟨rfl, hd⟩]
        exact .frac h hb' e (by omega)
      · have e : spDof s.data.toList w = w := by unfold spDof; rw [if_neg (fun c => hd c.2)]
        exact .point h hb' (by have := dig_lo s.data.toList (w + 1); omega) e
    · have hb' : ((s[w].toNat : Int) == 46) = false := by
        rw [Bool.eq_false_iff]; intro hh; exact hb ((byte_eq (n := 46) (by decide)).1 hh)
      have e : spDof s.data.toList w = w := by unfold spDof; rw [hg, if_neg (fun c => hb c.1)]
      exact .other h hb' e
  · have e : spDof s.data.toList w = w := by unfold spDof; rw [get_past s w (by omega), if_neg (fun c => absurd c.1 (by decide))]
    exact .past h e

/-- the ways behind all digits -/
inductive WayE (s : ByteArray) (d e : Nat) : Prop
  | yes (h : d < s.size) (hb : ((s[d].toNat : Int) == 101) = true ∨ (((s[d].toNat : Int) == 101) = false ∧ ((s[d].toNat : Int) == 69) = true)) (he : e = dig s.data.toList (sgn s.data.toList (d + 1))) (hl : sgn s.data.toList (d + 1) < e)
  | bare (h : d < s.size) (hb : ((s[d].toNat : Int) == 101) = true ∨ (((s[d].toNat : Int) == 101) = false ∧ ((s[d].toNat : Int) == 69) = true)) (hd : dig s.data.toList (sgn s.data.toList (d + 1)) = sgn s.data.toList (d + 1)) (he : e = d)
  | other (h : d < s.size) (hb : ((s[d].toNat : Int) == 101) = false) (hc : ((s[d].toNat : Int) == 69) = false) (he : e = d)
  | past (h : ¬ d < s.size) (he : e = d)
theorem wayE (s : ByteArray) (d : Nat) : WayE s d (spEof s.data.toList d) := by
  by_cases h : d < s.size
  · have hg := get_at s d h
    by_cases hb : s[d] = 101 ∨ s[d] = 69
    · have hb' : ((s[d].toNat : Int) == 101) = true ∨ (((s[d].toNat : Int) == 101) = false ∧ ((s[d].toNat : Int) == 69) = true) := by
        rcases hb with hb | hb
        · left; rw [hb]; rfl
        · right; rw [hb]; exact ⟨rfl, rfl⟩
      by_cases hd : sgn s.data.toList (d + 1) < dig s.data.toList (sgn s.data.toList (d + 1))
      · have e : spEof s.data.toList d = dig s.data.toList (sgn s.data.toList (d + 1)) := by unfold spEof; rw [hg, if_pos ⟨hb, hd⟩]
        exact .yes h hb' e (by omega)
      · have e : spEof s.data.toList d = d := by unfold spEof; rw [if_neg (fun c => hd c.2)]
        exact .bare h hb' (by have := dig_lo s.data.toList (sgn s.data.toList (d + 1)); omega) e
    · have hb1 : ((s[d].toNat : Int) == 101) = false := by
        rw [Bool.eq_false_iff]; intro hh; exact hb (Or.inl ((byte_eq (n := 101) (by decide)).1 hh))
      have hb2 : ((s[d].toNat : Int) == 69) = false := by
        rw [Bool.eq_false_iff]; intro hh; exact hb (Or.inr ((byte_eq (n := 69) (by decide)).1 hh))
      have e : spEof s.data.toList d = d := by unfold spEof; rw [hg, if_neg (fun c => hb c.1)]
      exact .other h hb1 hb2 e
  · have e : spEof s.data.toList d = d := by unfold spEof; rw [get_past s d (by omega), if_neg (fun c => absurd c.1 (by decide))]
    exact .past h e
end Fx

/-- a struct of four numbers -/
def parts (a b c d : Int) : Value := .agg #[.int .i64 a, .int .i64 b, .int .i64 c, .int .i64 d]

set_option maxHeartbeats 1000000 in
theorem split_no (s : ByteArray) (w : World) (hs : s.size ≤ maxLen) (hn : Fx.spD s.data.toList = Fx.spS s.data.toList) :
    Calls Tryd.prog 24 #[.string s] w fun e w' => e = .returned (parts 0 0 0 0) ∧ Below w.heap.size w w' := by
  have hs' := hs
  unfold maxLen at hs'
  have b1 := Fx.spS_hi s.data.toList
  have b2 := Fx.spW_hi s.data.toList
  have b3 := Fx.spW_lo s.data.toList
  have hl : s.data.toList.length = s.size := by simp
  rw [hl] at b1 b2
  have hw := Fx.wayD s (Fx.spW s.data.toList)
  have e1 : Fx.dig s.data.toList (Fx.spS s.data.toList) = Fx.spW s.data.toList := rfl
  have e0 : Fx.sgn s.data.toList 0 = Fx.spS s.data.toList := rfl
  have e2 : Fx.spDof s.data.toList (Fx.spW s.data.toList) = Fx.spD s.data.toList := rfl
  rw [e2] at hw
  have hd := Fx.spD_lo s.data.toList
  generalize Fx.spD s.data.toList = d at *
  generalize Fx.spW s.data.toList = k at *
  generalize Fx.spS s.data.toList = j at *
  obtain rfl : d = k := by omega
  obtain rfl : j = d := by omega
  clear e2 hn hd b3 hl
  rcases hw with ⟨h, hb, hd, hl⟩ | ⟨h, hb, hd, -⟩ | ⟨h, hb, -⟩ | ⟨h, -⟩
  · omega
  all_goals
    go_enter Tryd.func24, Tryd.ntmps24
    go_wp2_with (first | (go_at_call 32; refine (afterSign_any _ _ _ hs (by omega) (by omega)).mono ?_; rintro e w' ⟨rfl, rfl⟩) | (go_at_call 33; refine (afterDigits_any _ _ _ hs (by omega) (by omega)).mono ?_; rintro e w' ⟨rfl, rfl⟩))
    exact bodyPost_ret (v := parts 0 0 0 0) (by simp [parts, results, Tryd.results24, go_sem]) rfl ⟨rfl, (Below.refl _ _).alloc (Nat.le_refl _) _⟩

theorem clash {x a b : Int} (h : (x == a) = true) (hn : a ≠ b) : ¬ (x == b) = true := by
  rw [beq_iff_eq] at *; omega

theorem sign_is (s : ByteArray) (hs : s.size ≤ maxLen) (a : Int) (i r : Nat) (h : i ≤ s.size) (ha : a = i) (hr : Fx.sgn s.data.toList i = r) :
    Hid (∀ w : World, Calls Tryd.prog 32 #[.string s, .int .i64 a] w fun e w' => e = .returned (.int .i64 (r : Int)) ∧ w = w') := by
  subst ha hr
  exact fun w => afterSign_any s i w hs (by omega) (by omega)
theorem digits_is (s : ByteArray) (hs : s.size ≤ maxLen) (a : Int) (i r : Nat) (h : i ≤ s.size) (ha : a = i) (hr : Fx.dig s.data.toList i = r) :
    Hid (∀ w : World, Calls Tryd.prog 33 #[.string s, .int .i64 a] w fun e w' => e = .returned (.int .i64 (r : Int)) ∧ w = w') := by
  subst ha hr
  exact fun w => afterDigits_any s i w hs (by omega) (by omega)

set_option maxRecDepth 100000 in
set_option maxHeartbeats 4000000 in
theorem split_yes (s : ByteArray) (w : World) (hs : s.size ≤ maxLen) (hn : ¬ Fx.spD s.data.toList = Fx.spS s.data.toList) :
    Calls Tryd.prog 24 #[.string s] w fun e w' => e = .returned (parts (Fx.spS s.data.toList : Nat) (Fx.spW s.data.toList : Nat) (Fx.spD s.data.toList : Nat) (Fx.spE s.data.toList : Nat)) ∧ Below w.heap.size w w' := by
  have hs' := hs
  unfold maxLen at hs'
  have b1 := Fx.spS_hi s.data.toList
  have b2 := Fx.spW_hi s.data.toList
  have b3 := Fx.spW_lo s.data.toList
  have b4 := Fx.spD_hi s.data.toList
  have b5 := Fx.spD_lo s.data.toList
  have b6 := Fx.spE_hi s.data.toList
  have b7 := Fx.spE_lo s.data.toList
  have hl : s.data.toList.length = s.size := by simp
  rw [hl] at b1 b2 b4 b6
  have hw := Fx.wayD s (Fx.spW s.data.toList)
  have he := Fx.wayE s (Fx.spD s.data.toList)
  have e1 : Fx.dig s.data.toList (Fx.spS s.data.toList) = Fx.spW s.data.toList := rfl
  have e0 : Fx.sgn s.data.toList 0 = Fx.spS s.data.toList := rfl
  have e2 : Fx.spDof s.data.toList (Fx.spW s.data.toList) = Fx.spD s.data.toList := rfl
  have e3 : Fx.spEof s.data.toList (Fx.spD s.data.toList) = Fx.spE s.data.toList := rfl
  rw [e2] at hw
  rw [e3] at he
  have g1 := Fx.sgn_lo s.data.toList (Fx.spD s.data.toList + 1)
  have g2 : Fx.spD s.data.toList < s.size → Fx.sgn s.data.toList (Fx.spD s.data.toList + 1) ≤ s.size := fun h => hl ▸ Fx.sgn_hi s.data.toList (Fx.spD s.data.toList + 1) (by omega)
  generalize Fx.spE s.data.toList = en at *
  generalize Fx.spD s.data.toList = d at *
  generalize Fx.spW s.data.toList = k at *
  generalize Fx.spS s.data.toList = j at *
  generalize hf : Fx.sgn s.data.toList (d + 1) = f at *
  have CS := sign_is s hs 0 0 j (Nat.zero_le _) rfl e0
  have CW := digits_is s hs j j k b1 rfl e1
  clear e0 e1 e2 e3 hl
  have hdj : decide ((d : Int) = (j : Int)) = false := decide_eq_false (by omega)
  have hdj' : ((d : Int) == (j : Int)) = false := by rw [beq_eq_false_iff_ne]; omega
  have CD : k < s.size → ∀ r, Fx.dig s.data.toList (k + 1) = r → Hid (∀ w : World, Calls Tryd.prog 33 #[.string s, .int .i64 ((k : Int) + 1)] w fun e w' => e = .returned (.int .i64 (r : Int)) ∧ w = w') := fun h r hr => digits_is s hs ((k : Int) + 1) (k + 1) r (by omega) (by omega) hr
  have CF : d < s.size → Hid (∀ w : World, Calls Tryd.prog 32 #[.string s, .int .i64 ((d : Int) + 1)] w fun e w' => e = .returned (.int .i64 (f : Int)) ∧ w = w') := fun h => sign_is s hs ((d : Int) + 1) (d + 1) f (by omega) (by omega) hf
  have CE : d < s.size → ∀ r, Fx.dig s.data.toList f = r → Hid (∀ w : World, Calls Tryd.prog 33 #[.string s, .int .i64 (f : Int)] w fun e w' => e = .returned (.int .i64 (r : Int)) ∧ w = w') := fun h r hr => digits_is s hs f f r (g2 h) rfl hr
  rcases he with ⟨i, ib, ie, il⟩ | ⟨i, ib, ie, id⟩ | ⟨i, ib, ic, id⟩ | ⟨i, id⟩
  · rw [hf] at ie il
    replace CE := CE i en ie.symm
    replace CF := CF i
    clear ie g2 hf
    rcases ib with ib | ⟨ib, ic⟩
    all_goals
      rcases hw with ⟨h, hb, hd, hl⟩ | ⟨h, hb, hd, hk⟩ | ⟨h, hb, hk⟩ | ⟨h, hk⟩
    all_goals try (subst hk; exact absurd hb (clash ib (by decide)))
    all_goals try (subst hk; exact absurd hb (clash ic (by decide)))
    all_goals try (exfalso; omega)
    all_goals
      first | replace CD := CD h _ hd.symm | (subst hk; replace CD := CD h (_ + 1) hd) | (subst hk; clear CD)
      first | clear hd | skip
      go_enter Tryd.func24, Tryd.ntmps24
      go_wp2_with (first | (go_at_call 32; ((with_reducible refine (CS.out _).mono ?_); rintro e w' ⟨rfl, rfl⟩)) | (go_at_call 32; ((with_reducible refine (CF.out _).mono ?_); rintro e w' ⟨rfl, rfl⟩)) | (go_at_call 33; ((with_reducible refine (CW.out _).mono ?_); rintro e w' ⟨rfl, rfl⟩)) | (go_at_call 33; ((with_reducible refine (CD.out _).mono ?_); rintro e w' ⟨rfl, rfl⟩)) | (go_at_call 33; ((with_reducible refine (CE.out _).mono ?_); rintro e w' ⟨rfl, rfl⟩)))
      exact bodyPost_ret (v := parts _ _ _ _) (by simp [parts, results, Tryd.results24, go_sem]) rfl ⟨rfl, (Below.refl _ _).alloc (Nat.le_refl _) _⟩
  · rw [hf] at ie
    replace CE := CE i f ie
    replace CF := CF i
    clear ie g2 hf
    subst id
    rcases ib with ib | ⟨ib, ic⟩
    all_goals
      rcases hw with ⟨h, hb, hd, hl⟩ | ⟨h, hb, hd, hk⟩ | ⟨h, hb, hk⟩ | ⟨h, hk⟩
    all_goals try (subst hk; exact absurd hb (clash ib (by decide)))
    all_goals try (subst hk; exact absurd hb (clash ic (by decide)))
    all_goals try (exfalso; omega)
    all_goals
      first | replace CD := CD h _ hd.symm | (subst hk; replace CD := CD h (_ + 1) hd) | (subst hk; clear CD)
      first | clear hd | skip
      go_enter Tryd.func24, Tryd.ntmps24
      go_wp2_with (first | (go_at_call 32; ((with_reducible refine (CS.out _).mono ?_); rintro e w' ⟨rfl, rfl⟩)) | (go_at_call 32; ((with_reducible refine (CF.out _).mono ?_); rintro e w' ⟨rfl, rfl⟩)) | (go_at_call 33; ((with_reducible refine (CW.out _).mono ?_); rintro e w' ⟨rfl, rfl⟩)) | (go_at_call 33; ((with_reducible refine (CD.out _).mono ?_); rintro e w' ⟨rfl, rfl⟩)) | (go_at_call 33; ((with_reducible refine (CE.out _).mono ?_); rintro e w' ⟨rfl, rfl⟩)))
      exact bodyPost_ret (v := parts _ _ _ _) (by simp [parts, results, Tryd.results24, go_sem]) rfl ⟨rfl, (Below.refl _ _).alloc (Nat.le_refl _) _⟩
  · clear CE CF g2 hf
    subst id
    rcases hw with ⟨h, hb, hd, hl⟩ | ⟨h, hb, hd, hk⟩ | ⟨h, hb, hk⟩ | ⟨h, hk⟩
    all_goals try (exfalso; omega)
    all_goals
      first | replace CD := CD h _ hd.symm | (subst hk; replace CD := CD h (_ + 1) hd) | (subst hk; clear CD)
      first | clear hd | skip
      go_enter Tryd.func24, Tryd.ntmps24
      go_wp2_with (first | (go_at_call 32; ((with_reducible refine (CS.out _).mono ?_); rintro e w' ⟨rfl, rfl⟩)) | (go_at_call 32; ((with_reducible refine (CF.out _).mono ?_); rintro e w' ⟨rfl, rfl⟩)) | (go_at_call 33; ((with_reducible refine (CW.out _).mono ?_); rintro e w' ⟨rfl, rfl⟩)) | (go_at_call 33; ((with_reducible refine (CD.out _).mono ?_); rintro e w' ⟨rfl, rfl⟩)) | (go_at_call 33; ((with_reducible refine (CE.out _).mono ?_); rintro e w' ⟨rfl, rfl⟩)))
      exact bodyPost_ret (v := parts _ _ _ _) (by simp [parts, results, Tryd.results24, go_sem]) rfl ⟨rfl, (Below.refl _ _).alloc (Nat.le_refl _) _⟩
  · clear CE CF g2 hf
    subst id
    rcases hw with ⟨h, hb, hd, hl⟩ | ⟨h, hb, hd, hk⟩ | ⟨h, hb, hk⟩ | ⟨h, hk⟩
    all_goals try (exfalso; omega)
    all_goals
      first | replace CD := CD h _ hd.symm | (subst hk; replace CD := CD h (_ + 1) hd) | (subst hk; clear CD)
      first | clear hd | skip
      go_enter Tryd.func24, Tryd.ntmps24
      go_wp2_with (first | (go_at_call 32; ((with_reducible refine (CS.out _).mono ?_); rintro e w' ⟨rfl, rfl⟩)) | (go_at_call 32; ((with_reducible refine (CF.out _).mono ?_); rintro e w' ⟨rfl, rfl⟩)) | (go_at_call 33; ((with_reducible refine (CW.out _).mono ?_); rintro e w' ⟨rfl, rfl⟩)) | (go_at_call 33; ((with_reducible refine (CD.out _).mono ?_); rintro e w' ⟨rfl, rfl⟩)) | (go_at_call 33; ((with_reducible refine (CE.out _).mono ?_); rintro e w' ⟨rfl, rfl⟩)))
      exact bodyPost_ret (v := parts _ _ _ _) (by simp [parts, results, Tryd.results24, go_sem]) rfl ⟨rfl, (Below.refl _ _).alloc (Nat.le_refl _) _⟩

end Go.Proofs.YtahdecppngemeaaDoor
