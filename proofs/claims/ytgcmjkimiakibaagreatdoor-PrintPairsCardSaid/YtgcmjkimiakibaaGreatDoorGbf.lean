/-
  The walk of split.
-/
import Derived.Test.YtgcmjkimiakibaaGreatDoorGac
import Derived.Test.YtgcmjkimiakibaaGreatDoorGbe
import Derived.Below
namespace Go.Proofs.YtgcmjkimiakibaaGreatDoor
open Go.RowKit

/-- a struct of four numbers -/
def parts (a b c d : Int) : Value := .agg #[.int .i64 a, .int .i64 b, .int .i64 c, .int .i64 d]

set_option maxHeartbeats 1000000 in
theorem split_no (s : ByteArray) (w : World) (hs : s.size ≤ maxLen) (hn : Fx.spD s.data.toList = Fx.spS s.data.toList) :
    Calls Tryz.prog 95 #[.string s] w fun e w' => e = .returned (parts 0 0 0 0) ∧ Below w.heap.size w w' := by
  have hs' := hs
  unfold maxLen at hs'
  have b1 := Fx.spS_hi s.data.toList
  have b2 := Fx.spW_hi s.data.toList
  have b3 := Fx.spW_lo s.data.toList
  have hl : s.data.toList.length = s.size := by simp
  rw [hl] at b1 b2
  have hw := Fx.wayD s (Fx.spW s.data.toList)
  have e1 : Fx.dig s.data.toList (Fx.spS s.data.toList) = Fx.spW s.data.toList := rfl
  have e0 : Fx.sgn s.data.toList 0 = Fx.spS s.data.toList := rfl
  have e2 : Fx.spDof s.data.toList (Fx.spW s.data.toList) = Fx.spD s.data.toList := rfl
  rw [e2] at hw
  have hd := Fx.spD_lo s.data.toList
  generalize Fx.spD s.data.toList = d at *
  generalize Fx.spW s.data.toList = k at *
  generalize Fx.spS s.data.toList = j at *
  obtain rfl : d = k := by omega
  obtain rfl : j = d := by omega
  clear e2 hn hd b3 hl
  rcases hw with ⟨h, hb, hd, hl⟩ | ⟨h, hb, hd, -⟩ | ⟨h, hb, -⟩ | ⟨h, -⟩
  · omega
  all_goals
    go_enter Tryz.func95, Tryz.ntmps95
    go_wp2_with (first | (go_at_call 112; refine (afterSign_any _ _ _ hs (by omega) (by omega)).mono ?_; rintro e w' ⟨rfl, rfl⟩) | (go_at_call 113; refine (afterDigits_any _ _ _ hs (by omega) (by omega)).mono ?_; rintro e w' ⟨rfl, rfl⟩))
    exact bodyPost_ret (v := parts 0 0 0 0) (by simp [parts, results, Tryz.results95, go_sem]) rfl ⟨rfl, (Below.refl _ _).alloc (Nat.le_refl _) _⟩

theorem clash {x a b : Int} (h : (x == a) = true) (hn : a ≠ b) : ¬ (x == b) = true := by
  rw [beq_iff_eq] at *; omega

theorem sign_is (s : ByteArray) (hs : s.size ≤ maxLen) (a : Int) (i r : Nat) (h : i ≤ s.size) (ha : a = i) (hr : Fx.sgn s.data.toList i = r) :
    Hid (∀ w : World, Calls Tryz.prog 112 #[.string s, .int .i64 a] w fun e w' => e = .returned (.int .i64 (r : Int)) ∧ w = w') := by
  subst ha hr
  exact fun w => afterSign_any s i w hs (by omega) (by omega)
theorem digits_is (s : ByteArray) (hs : s.size ≤ maxLen) (a : Int) (i r : Nat) (h : i ≤ s.size) (ha : a = i) (hr : Fx.dig s.data.toList i = r) :
    Hid (∀ w : World, Calls Tryz.prog 113 #[.string s, .int .i64 a] w fun e w' => e = .returned (.int .i64 (r : Int)) ∧ w = w') := by
  subst ha hr
  exact fun w => afterDigits_any s i w hs (by omega) (by omega)

set_option maxRecDepth 100000 in
set_option maxHeartbeats 4000000 in
theorem split_yes (s : ByteArray) (w : World) (hs : s.size ≤ maxLen) (hn : ¬ Fx.spD s.data.toList = Fx.spS s.data.toList) :
    Calls Tryz.prog 95 #[.string s] w fun e w' => e = .returned (parts (Fx.spS s.data.toList : Nat) (Fx.spW s.data.toList : Nat) (Fx.spD s.data.toList : Nat) (Fx.spE s.data.toList : Nat)) ∧ Below w.heap.size w w' := by
  have hs' := hs
  unfold maxLen at hs'
  have b1 := Fx.spS_hi s.data.toList
  have b2 := Fx.spW_hi s.data.toList
  have b3 := Fx.spW_lo s.data.toList
  have b4 := Fx.spD_hi s.data.toList
  have b5 := Fx.spD_lo s.data.toList
  have b6 := Fx.spE_hi s.data.toList
  have b7 := Fx.spE_lo s.data.toList
  have hl : s.data.toList.length = s.size := by simp
  rw [hl] at b1 b2 b4 b6
  have hw := Fx.wayD s (Fx.spW s.data.toList)
  have he := Fx.wayE s (Fx.spD s.data.toList)
  have e1 : Fx.dig s.data.toList (Fx.spS s.data.toList) = Fx.spW s.data.toList := rfl
  have e0 : Fx.sgn s.data.toList 0 = Fx.spS s.data.toList := rfl
  have e2 : Fx.spDof s.data.toList (Fx.spW s.data.toList) = Fx.spD s.data.toList := rfl
  have e3 : Fx.spEof s.data.toList (Fx.spD s.data.toList) = Fx.spE s.data.toList := rfl
  rw [e2] at hw
  rw [e3] at he
  have g1 := Fx.sgn_lo s.data.toList (Fx.spD s.data.toList + 1)
  have g2 : Fx.spD s.data.toList < s.size → Fx.sgn s.data.toList (Fx.spD s.data.toList + 1) ≤ s.size := fun h => hl ▸ Fx.sgn_hi s.data.toList (Fx.spD s.data.toList + 1) (by omega)
  generalize Fx.spE s.data.toList = en at *
  generalize Fx.spD s.data.toList = d at *
  generalize Fx.spW s.data.toList = k at *
  generalize Fx.spS s.data.toList = j at *
  generalize hf : Fx.sgn s.data.toList (d + 1) = f at *
  have CS := sign_is s hs 0 0 j (Nat.zero_le _) rfl e0
  have CW := digits_is s hs j j k b1 rfl e1
  clear e0 e1 e2 e3 hl
  have hdj : decide ((d : Int) = (j : Int)) = false := decide_eq_false (by omega)
  have hdj' : ((d : Int) == (j : Int)) = false := by rw [beq_eq_false_iff_ne]; omega
  have CD : k < s.size → ∀ r, Fx.dig s.data.toList (k + 1) = r → Hid (∀ w : World, Calls Tryz.prog 113 #[.string s, .int .i64 ((k : Int) + 1)] w fun e w' => e = .returned (.int .i64 (r : Int)) ∧ w = w') := fun h r hr => digits_is s hs ((k : Int) + 1) (k + 1) r (by omega) (by omega) hr
  have CF : d < s.size → Hid (∀ w : World, Calls Tryz.prog 112 #[.string s, .int .i64 ((d : Int) + 1)] w fun e w' => e = .returned (.int .i64 (f : Int)) ∧ w = w') := fun h => sign_is s hs ((d : Int) + 1) (d + 1) f (by omega) (by omega) hf
  have CE : d < s.size → ∀ r, Fx.dig s.data.toList f = r → Hid (∀ w : World, Calls Tryz.prog 113 #[.string s, .int .i64 (f : Int)] w fun e w' => e = .returned (.int .i64 (r : Int)) ∧ w = w') := fun h r hr => digits_is s hs f f r (g2 h) rfl hr
  rcases he with ⟨i, ib, ie, il⟩ | ⟨i, ib, ie, id⟩ | ⟨i, ib, ic, id⟩ | ⟨i, id⟩
  · rw [hf] at ie il
    replace CE := CE i en ie.symm
    replace CF := CF i
    clear ie g2 hf
    rcases ib with ib | ⟨ib, ic⟩
    all_goals
      rcases hw with ⟨h, hb, hd, hl⟩ | ⟨h, hb, hd, hk⟩ | ⟨h, hb, hk⟩ | ⟨h, hk⟩
    all_goals try (subst hk; exact absurd hb (clash ib (by decide)))
    all_goals try (subst hk; exact absurd hb (clash ic (by decide)))
    all_goals try (exfalso; omega)
    all_goals
      first | replace CD := CD h _ hd.symm | (subst hk; replace CD := CD h (_ + 1) hd) | (subst hk; clear CD)
      first | clear hd | skip
      go_enter Tryz.func95, Tryz.ntmps95
      go_wp2_with (first | (go_at_call 112; ((with_reducible refine (CS.out _).mono ?_); rintro e w' ⟨rfl, rfl⟩)) | (go_at_call 112; ((with_reducible refine (CF.out _).mono ?_); rintro e w' ⟨rfl, rfl⟩)) | (go_at_call 113; ((with_reducible refine (CW.out _).mono ?_); rintro e w' ⟨rfl, rfl⟩)) | (go_at_call 113; ((with_reducible refine (CD.out _).mono ?_); rintro e w' ⟨rfl, rfl⟩)) | (go_at_call 113; ((with_reducible refine (CE.out _).mono ?_); rintro e w' ⟨rfl, rfl⟩)))
      exact bodyPost_ret (v := parts _ _ _ _) (by simp [parts, results, Tryz.results95, go_sem]) rfl ⟨rfl, (Below.refl _ _).alloc (Nat.le_refl _) _⟩
  · rw [hf] at ie
    replace CE := CE i f ie
    replace CF := CF i
    clear ie g2 hf
    subst id
    rcases ib with ib | ⟨ib, ic⟩
    all_goals
      rcases hw with ⟨h, hb, hd, hl⟩ | ⟨h, hb, hd, hk⟩ | ⟨h, hb, hk⟩ | ⟨h, hk⟩
    all_goals try (subst hk; exact absurd hb (clash ib (by decide)))
    all_goals try (subst hk; exact absurd hb (clash ic (by decide)))
    all_goals try (exfalso; omega)
    all_goals
      first | replace CD := CD h _ hd.symm | (subst hk; replace CD := CD h (_ + 1) hd) | (subst hk; clear CD)
      first | clear hd | skip
      go_enter Tryz.func95, Tryz.ntmps95
      go_wp2_with (first | (go_at_call 112; ((with_reducible refine (CS.out _).mono ?_); rintro e w' ⟨rfl, rfl⟩)) | (go_at_call 112; ((with_reducible refine (CF.out _).mono ?_); rintro e w' ⟨rfl, rfl⟩)) | (go_at_call 113; ((with_reducible refine (CW.out _).mono ?_); rintro e w' ⟨rfl, rfl⟩)) | (go_at_call 113; ((with_reducible refine (CD.out _).mono ?_); rintro e w' ⟨rfl, rfl⟩)) | (go_at_call 113; ((with_reducible refine (CE.out _).mono ?_); rintro e w' ⟨rfl, rfl⟩)))
      exact bodyPost_ret (v := parts _ _ _ _) (by simp [parts, results, Tryz.results95, go_sem]) rfl ⟨rfl, (Below.refl _ _).alloc (Nat.le_refl _) _⟩
  · clear CE CF g2 hf
    subst id
    rcases hw with ⟨h, hb, hd, hl⟩ | ⟨h, hb, hd, hk⟩ | ⟨h, hb, hk⟩ | ⟨h, hk⟩
    all_goals try (exfalso; omega)
    all_goals
      first | replace CD := CD h _ hd.symm | (subst hk; replace CD := CD h (_ + 1) hd) | (subst hk; clear CD)
      first | clear hd | skip
      go_enter Tryz.func95, Tryz.ntmps95
      go_wp2_with (first | (go_at_call 112; ((with_reducible refine (CS.out _).mono ?_); rintro e w' ⟨rfl, rfl⟩)) | (go_at_call 112; ((with_reducible refine (CF.out _).mono ?_); rintro e w' ⟨rfl, rfl⟩)) | (go_at_call 113; ((with_reducible refine (CW.out _).mono ?_); rintro e w' ⟨rfl, rfl⟩)) | (go_at_call 113; ((with_reducible refine (CD.out _).mono ?_); rintro e w' ⟨rfl, rfl⟩)) | (go_at_call 113; ((with_reducible refine (CE.out _).mono ?_); rintro e w' ⟨rfl, rfl⟩)))
      exact bodyPost_ret (v := parts _ _ _ _) (by simp [parts, results, Tryz.results95, go_sem]) rfl ⟨rfl, (Below.refl _ _).alloc (Nat.le_refl _) _⟩
  · clear CE CF g2 hf
    subst id
    rcases hw with ⟨h, hb, hd, hl⟩ | ⟨h, hb, hd, hk⟩ | ⟨h, hb, hk⟩ | ⟨h, hk⟩
    all_goals try (exfalso; omega)
    all_goals
      first | replace CD := CD h _ hd.symm | (subst hk; replace CD := CD h (_ + 1) hd) | (subst hk; clear CD)
      first | clear hd | skip
      go_enter Tryz.func95, Tryz.ntmps95
      go_wp2_with (first | (go_at_call 112; ((with_reducible refine (CS.out _).mono ?_); rintro e w' ⟨rfl, rfl⟩)) | (go_at_call 112; ((with_reducible refine (CF.out _).mono ?_); rintro e w' ⟨rfl, rfl⟩)) | (go_at_call 113; ((with_reducible refine (CW.out _).mono ?_); rintro e w' ⟨rfl, rfl⟩)) | (go_at_call 113; ((with_reducible refine (CD.out _).mono ?_); rintro e w' ⟨rfl, rfl⟩)) | (go_at_call 113; ((with_reducible refine (CE.out _).mono ?_); rintro e w' ⟨rfl, rfl⟩)))
      exact bodyPost_ret (v := parts _ _ _ _) (by simp [parts, results, Tryz.results95, go_sem]) rfl ⟨rfl, (Below.refl _ _).alloc (Nat.le_refl _) _⟩

end Go.Proofs.YtgcmjkimiakibaaGreatDoor
