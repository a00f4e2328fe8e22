/-
  Walks over strings: afterSign, afterDigits.
-/
import Derived.Test.YtppgklmliklkkaaDoorGa
import Derived.Below
namespace Go.Proofs.YtppgklmliklkkaaDoor
open Go.RowKit

set_option maxHeartbeats 400000 in
theorem afterSign_any (s : ByteArray) (a : Int) (w : World) (hs : s.size ≤ maxLen) (h0 : 0 ≤ a) (h1 : a ≤ s.size) :
    Calls Tryd.prog 57 #[.string s, .int .i64 a] w fun e w' => e = .returned (.int .i64 (Fx.sgn s.data.toList a.toNat : Nat)) ∧ w = w' := by
  unfold maxLen at hs
  obtain ⟨k, rfl⟩ := Int.eq_ofNat_of_zero_le h0
  rw [Int.toNat_natCast]
  by_cases hk : k < s.size
  · have hg := Fx.get_at s k hk
    by_cases h43 : s[k] = 43
    · have hb : ((s[k].toNat : Int) == 43) = true := by rw [h43]; rfl
      have H := Lib.hid hg; clear hg
      have H43 := Lib.hid h43; clear h43
      go_enter Tryd.func57, Tryd.ntmps57
      go_wp2
      go_ret
      exact ⟨ret_int (by rw [Fx.sgn, H.out, H43.out]; simp), rfl⟩
    · have hb : ((s[k].toNat : Int) == 43) = false := by
        rw [Bool.eq_false_iff]; intro h; exact h43 ((byte_eq (by decide)).1 h)
      by_cases h45 : s[k] = 45
      · have hc : ((s[k].toNat : Int) == 45) = true := by rw [h45]; rfl
        have H := Lib.hid hg; clear hg
        have H45 := Lib.hid h45; clear h45 h43
        go_enter Tryd.func57, Tryd.ntmps57
        go_wp2
        go_ret
        exact ⟨ret_int (by rw [Fx.sgn, H.out, H45.out]; simp), rfl⟩
      · have hc : ((s[k].toNat : Int) == 45) = false := by
          rw [Bool.eq_false_iff]; intro h; exact h45 ((byte_eq (by decide)).1 h)
        have H := Lib.hid hg; clear hg
        have H43 := Lib.hid h43; clear h43
        have H45 := Lib.hid h45; clear h45
        go_enter Tryd.func57, Tryd.ntmps57
        go_wp2
        go_ret
        exact ⟨ret_int (by rw [Fx.sgn, H.out, if_neg (by have := H43.out; have := H45.out; simp [*])]), rfl⟩
  · have hg := Fx.get_past s k (by omega)
    have H := Lib.hid hg; clear hg
    go_enter Tryd.func57, Tryd.ntmps57
    go_wp2
    go_ret
    exact ⟨ret_int (by rw [Fx.sgn, H.out]; simp), rfl⟩

set_option maxHeartbeats 400000 in
theorem afterDigits_any (s : ByteArray) (a : Int) (w : World) (hs : s.size ≤ maxLen) (h0 : 0 ≤ a) (h1 : a ≤ s.size) :
    Calls Tryd.prog 58 #[.string s, .int .i64 a] w fun e w' => e = .returned (.int .i64 (Fx.dig s.data.toList a.toNat : Nat)) ∧ w = w' := by
  unfold maxLen at hs
  obtain ⟨j, rfl⟩ := Int.eq_ofNat_of_zero_le h0
  rw [Int.toNat_natCast]
  go_enter Tryd.func58, Tryd.ntmps58
  go_wp2
  go_loop [1] (fun i => ∃ k : Nat, k ≤ s.size ∧ i = .int .i64 k ∧ Hid (Fx.dig s.data.toList j = Fx.dig s.data.toList k)) (fun i => s.size - (intOf i).toNat)
  case atStart => exact ⟨j, by omega, rfl, Lib.hid rfl⟩
  case round =>
    obtain ⟨k, hk, rfl, H⟩ := hrel
    by_cases hlt : k < s.size
    · have G := Lib.hid (Fx.get_at s k hlt)
      by_cases d1 : 48 ≤ (s[k].toNat : Int)
      · by_cases d2 : (s[k].toNat : Int) ≤ 57
        · have Y := Lib.hid (Fx.isD_of d1 d2)
          go_wp2
          go_round
          case rel => exact ⟨k + 1, by omega, by go_num, Lib.hid (by rw [H.out]; exact Fx.dig_yes _ _ (by rw [G.out]; exact Y.out))⟩
          case measure => simp [intOf]; omega
        · have Y := Lib.hid (Fx.isD_not (Or.inr (Int.not_le.1 d2)))
          go_wp2
          go_ret
          exact ⟨ret_int (by rw [H.out, Fx.dig_no _ _ (by rw [G.out]; exact Y.out)]), rfl⟩
      · have Y := Lib.hid (Fx.isD_not (Or.inl (Int.not_le.1 d1)))
        go_wp2
        go_ret
        exact ⟨ret_int (by rw [H.out, Fx.dig_no _ _ (by rw [G.out]; exact Y.out)]), rfl⟩
    · have G := Lib.hid (Fx.get_past s k (by omega))
      go_wp2
      go_ret
      exact ⟨ret_int (by rw [H.out, Fx.dig_no _ _ (by rw [G.out]; exact Fx.isD_zero)]), rfl⟩

end Go.Proofs.YtppgklmliklkkaaDoor

/-
  The walk of split.
-/
namespace Go.Proofs.YtppgklmliklkkaaDoor
open Go.RowKit

/-- a struct of four numbers -/
def parts (a b c d : Int) : Value := .agg #[.int .i64 a, .int .i64 b, .int .i64 c, .int .i64 d]

set_option maxHeartbeats 1000000 in
theorem split_no (s : ByteArray) (w : World) (hs : s.size ≤ maxLen) (hn : Fx.spD s.data.toList = Fx.spS s.data.toList) :
    Calls Tryd.prog 51 #[.string s] w fun e w' => e = .returned (parts 0 0 0 0) ∧ Below w.heap.size w w' := by
  have hs' := hs
  unfold maxLen at hs'
  have b1 := Fx.spS_hi s.data.toList
  have b2 := Fx.spW_hi s.data.toList
  have b3 := Fx.spW_lo s.data.toList
  have hl : s.data.toList.length = s.size := by simp
  rw [hl] at b1 b2
  have hw := Fx.wayD s (Fx.spW s.data.toList)
  have e1 : Fx.dig s.data.toList (Fx.spS s.data.toList) = Fx.spW s.data.toList := rfl
  have e0 : Fx.sgn s.data.toList 0 = Fx.spS s.data.toList := rfl
  have e2 : Fx.spDof s.data.toList (Fx.spW s.data.toList) = Fx.spD s.data.toList := rfl
  rw [e2] at hw
  have hd := Fx.spD_lo s.data.toList
  generalize Fx.spD s.data.toList = d at *
  generalize Fx.spW s.data.toList = k at *
  generalize Fx.spS s.data.toList = j at *
  obtain rfl : d = k := by omega
  obtain rfl : j = d := by omega
  clear e2 hn hd b3 hl
  rcases hw with ⟨h, hb, hd, hl⟩ | ⟨h, hb, hd, -⟩ | ⟨h, hb, -⟩ | ⟨h, -⟩
  · omega
  all_goals
    go_enter Tryd.func51, Tryd.ntmps51
    go_wp2_with (first | (go_at_call 57; refine (afterSign_any _ _ _ hs (by omega) (by omega)).mono ?_; rintro e w' ⟨rfl, rfl⟩) | (go_at_call 58; refine (afterDigits_any _ _ _ hs (by omega) (by omega)).mono ?_; rintro e w' ⟨rfl, rfl⟩))
    exact bodyPost_ret (v := parts 0 0 0 0) (by simp [parts, results, Tryd.results51, go_sem]) rfl ⟨rfl, (Below.refl _ _).alloc (Nat.le_refl _) _⟩

theorem clash {x a b : Int} (h : (x == a) = true) (hn : a ≠ b) : ¬ (x == b) = true := by
  rw [beq_iff_eq] at *; omega

theorem sign_is (s : ByteArray) (hs : s.size ≤ maxLen) (a : Int) (i r : Nat) (h : i ≤ s.size) (ha : a = i) (hr : Fx.sgn s.data.toList i = r) :
    Hid (∀ w : World, Calls Tryd.prog 57 #[.string s, .int .i64 a] w fun e w' => e = .returned (.int .i64 (r : Int)) ∧ w = w') := by
  subst ha hr
  exact fun w => afterSign_any s i w hs (by omega) (by omega)
theorem digits_is (s : ByteArray) (hs : s.size ≤ maxLen) (a : Int) (i r : Nat) (h : i ≤ s.size) (ha : a = i) (hr : Fx.dig s.data.toList i = r) :
    Hid (∀ w : World, Calls Tryd.prog 58 #[.string s, .int .i64 a] w fun e w' => e = .returned (.int .i64 (r : Int)) ∧ w = w') := by
  subst ha hr
  exact fun w => afterDigits_any s i w hs (by omega) (by omega)

set_option maxRecDepth 100000 in
set_option maxHeartbeats 4000000 in
theorem split_yes (s : ByteArray) (w : World) (hs : s.size ≤ maxLen) (hn : ¬ Fx.spD s.data.toList = Fx.spS s.data.toList) :
    Calls Tryd.prog 51 #[.string s] w fun e w' => e = .returned (parts (Fx.spS s.data.toList : Nat) (Fx.spW s.data.toList : Nat) (Fx.spD s.data.toList : Nat) (Fx.spE s.data.toList : Nat)) ∧ Below w.heap.size w w' := by
  have hs' := hs
  unfold maxLen at hs'
  have b1 := Fx.spS_hi s.data.toList
  have b2 := Fx.spW_hi s.data.toList
  have b3 := Fx.spW_lo s.data.toList
  have b4 := Fx.spD_hi s.data.toList
  have b5 := Fx.spD_lo s.data.toList
  have b6 := Fx.spE_hi s.data.toList
  have b7 := Fx.spE_lo s.data.toList
  have hl : s.data.toList.length = s.size := by simp
  rw [hl] at b1 b2 b4 b6
  have hw := Fx.wayD s (Fx.spW s.data.toList)
  have he := Fx.wayE s (Fx.spD s.data.toList)
  have e1 : Fx.dig s.data.toList (Fx.spS s.data.toList) = Fx.spW s.data.toList := rfl
  have e0 : Fx.sgn s.data.toList 0 = Fx.spS s.data.toList := rfl
  have e2 : Fx.spDof s.data.toList (Fx.spW s.data.toList) = Fx.spD s.data.toList := rfl
  have e3 : Fx.spEof s.data.toList (Fx.spD s.data.toList) = Fx.spE s.data.toList := rfl
  rw [e2] at hw
  rw [e3] at he
  have g1 := Fx.sgn_lo s.data.toList (Fx.spD s.data.toList + 1)
  have g2 : Fx.spD s.data.toList < s.size → Fx.sgn s.data.toList (Fx.spD s.data.toList + 1) ≤ s.size := fun h => hl ▸ Fx.sgn_hi s.data.toList (Fx.spD s.data.toList + 1) (by omega)
  generalize Fx.spE s.data.toList = en at *
  generalize Fx.spD s.data.toList = d at *
  generalize Fx.spW s.data.toList = k at *
  generalize Fx.spS s.data.toList = j at *
  generalize hf : Fx.sgn s.data.toList (d + 1) = f at *
  have CS := sign_is s hs 0 0 j (Nat.zero_le _) rfl e0
  have CW := digits_is s hs j j k b1 rfl e1
  clear e0 e1 e2 e3 hl
  have hdj : decide ((d : Int) = (j : Int)) = false := decide_eq_false (by omega)
  have hdj' : ((d : Int) == (j : Int)) = false := by rw [beq_eq_false_iff_ne]; omega
  have CD : k < s.size → ∀ r, Fx.dig s.data.toList (k + 1) = r → Hid (∀ w : World, Calls Tryd.prog 58 #[.string s, .int .i64 ((k : Int) + 1)] w fun e w' => e = .returned (.int .i64 (r : Int)) ∧ w = w') := fun h r hr => digits_is s hs ((k : Int) + 1) (k + 1) r (by omega) (by omega) hr
  have CF : d < s.size → Hid (∀ w : World, Calls Tryd.prog 57 #[.string s, .int .i64 ((d : Int) + 1)] w fun e w' => e = .returned (.int .i64 (f : Int)) ∧ w = w') := fun h => sign_is s hs ((d : Int) + 1) (d + 1) f (by omega) (by omega) hf
  have CE : d < s.size → ∀ r, Fx.dig s.data.toList f = r → Hid (∀ w : World, Calls Tryd.prog 58 #[.string s, .int .i64 (f : Int)] w fun e w' => e = .returned (.int .i64 (r : Int)) ∧ w = w') := fun h r hr => digits_is s hs f f r (g2 h) rfl hr
  rcases he with ⟨i, ib, ie, il⟩ | ⟨i, ib, ie, id⟩ | ⟨i, ib, ic, id⟩ | ⟨i, id⟩
  · rw [hf] at ie il
    replace CE := CE i en ie.symm
    replace CF := CF i
    clear ie g2 hf
    rcases ib with ib | ⟨ib, ic⟩
    all_goals
      rcases hw with ⟨h, hb, hd, hl⟩ | ⟨h, hb, hd, hk⟩ | ⟨h, hb, hk⟩ | ⟨h, hk⟩
    all_goals try (subst hk; exact absurd hb (clash ib (by decide)))
    all_goals try (subst hk; exact absurd hb (clash ic (by decide)))
    all_goals try (exfalso; omega)
    all_goals
      first | replace CD := CD h _ hd.symm | (subst hk; replace CD := CD h (_ + 1) hd) | (subst hk; clear CD)
      first | clear hd | skip
      go_enter Tryd.func51, Tryd.ntmps51
      go_wp2_with (first | (go_at_call 57; ((with_reducible refine (CS.out _).mono ?_); rintro e w' ⟨rfl, rfl⟩)) | (go_at_call 57; ((with_reducible refine (CF.out _).mono ?_); rintro e w' ⟨rfl, rfl⟩)) | (go_at_call 58; ((with_reducible refine (CW.out _).mono ?_); rintro e w' ⟨rfl, rfl⟩)) | (go_at_call 58; ((with_reducible refine (CD.out _).mono ?_); rintro e w' ⟨rfl, rfl⟩)) | (go_at_call 58; ((with_reducible refine (CE.out _).mono ?_); rintro e w' ⟨rfl, rfl⟩)))
      exact bodyPost_ret (v := parts _ _ _ _) (by simp [parts, results, Tryd.results51, go_sem]) rfl ⟨rfl, (Below.refl _ _).alloc (Nat.le_refl _) _⟩
  · rw [hf] at ie
    replace CE := CE i f ie
    replace CF := CF i
    clear ie g2 hf
    subst id
    rcases ib with ib | ⟨ib, ic⟩
    all_goals
      rcases hw with ⟨h, hb, hd, hl⟩ | ⟨h, hb, hd, hk⟩ | ⟨h, hb, hk⟩ | ⟨h, hk⟩
    all_goals try (subst hk; exact absurd hb (clash ib (by decide)))
    all_goals try (subst hk; exact absurd hb (clash ic (by decide)))
    all_goals try (exfalso; omega)
    all_goals
      first | replace CD := CD h _ hd.symm | (subst hk; replace CD := CD h (_ + 1) hd) | (subst hk; clear CD)
      first | clear hd | skip
      go_enter Tryd.func51, Tryd.ntmps51
      go_wp2_with (first | (go_at_call 57; ((with_reducible refine (CS.out _).mono ?_); rintro e w' ⟨rfl, rfl⟩)) | (go_at_call 57; ((with_reducible refine (CF.out _).mono ?_); rintro e w' ⟨rfl, rfl⟩)) | (go_at_call 58; ((with_reducible refine (CW.out _).mono ?_); rintro e w' ⟨rfl, rfl⟩)) | (go_at_call 58; ((with_reducible refine (CD.out _).mono ?_); rintro e w' ⟨rfl, rfl⟩)) | (go_at_call 58; ((with_reducible refine (CE.out _).mono ?_); rintro e w' ⟨rfl, rfl⟩)))
      exact bodyPost_ret (v := parts _ _ _ _) (by simp [parts, results, Tryd.results51, go_sem]) rfl ⟨rfl, (Below.refl _ _).alloc (Nat.le_refl _) _⟩
  · clear CE CF g2 hf
    subst id
    rcases hw with ⟨h, hb, hd, hl⟩ | ⟨h, hb, hd, hk⟩ | ⟨h, hb, hk⟩ | ⟨h, hk⟩
    all_goals try (exfalso; omega)
    all_goals
      first | replace CD := CD h _ hd.symm | (subst hk; replace CD := CD h (_ + 1) hd) | (subst hk; clear CD)
      first | clear hd | skip
      go_enter Tryd.func51, Tryd.ntmps51
      go_wp2_with (first | (go_at_call 57; ((with_reducible refine (CS.out _).mono ?_); rintro e w' ⟨rfl, rfl⟩)) | (go_at_call 57; ((with_reducible refine (CF.out _).mono ?_); rintro e w' ⟨rfl, rfl⟩)) | (go_at_call 58; ((with_reducible refine (CW.out _).mono ?_); rintro e w' ⟨rfl, rfl⟩)) | (go_at_call 58; ((with_reducible refine (CD.out _).mono ?_); rintro e w' ⟨rfl, rfl⟩)) | (go_at_call 58; ((with_reducible refine (CE.out _).mono ?_); rintro e w' ⟨rfl, rfl⟩)))
      exact bodyPost_ret (v := parts _ _ _ _) (by simp [parts, results, Tryd.results51, go_sem]) rfl ⟨rfl, (Below.refl _ _).alloc (Nat.le_refl _) _⟩
  · clear CE CF g2 hf
    subst id
    rcases hw with ⟨h, hb, hd, hl⟩ | ⟨h, hb, hd, hk⟩ | ⟨h, hb, hk⟩ | ⟨h, hk⟩
    all_goals try (exfalso; omega)
    all_goals
      first | replace CD := CD h _ hd.symm | (subst hk; replace CD := CD h (_ + 1) hd) | (subst hk; clear CD)
      first | clear hd | skip
      go_enter Tryd.func51, Tryd.ntmps51
      go_wp2_with (first | (go_at_call 57; ((with_reducible refine (CS.out _).mono ?_); rintro e w' ⟨rfl, rfl⟩)) | (go_at_call 57; ((with_reducible refine (CF.out _).mono ?_); rintro e w' ⟨rfl, rfl⟩)) | (go_at_call 58; ((with_reducible refine (CW.out _).mono ?_); rintro e w' ⟨rfl, rfl⟩)) | (go_at_call 58; ((with_reducible refine (CD.out _).mono ?_); rintro e w' ⟨rfl, rfl⟩)) | (go_at_call 58; ((with_reducible refine (CE.out _).mono ?_); rintro e w' ⟨rfl, rfl⟩)))
      exact bodyPost_ret (v := parts _ _ _ _) (by simp [parts, results, Tryd.results51, go_sem]) rfl ⟨rfl, (Below.refl _ _).alloc (Nat.le_refl _) _⟩

end Go.Proofs.YtppgklmliklkkaaDoor

/-
  The walk of Length.
-/
namespace Go.Proofs.YtppgklmliklkkaaDoor
open Go.RowKit

theorem field_end (a b c d : Int) (w : World) : (Instr.field 72 (.agg #[.int .i64 a, .int .i64 b, .int .i64 c, .int .i64 d]) 3).run Tryd.prog w = .ok (.int .i64 d) w := by kernel_rfl

set_option maxRecDepth 100000 in
set_option maxHeartbeats 400000 in
theorem length_any (s : ByteArray) (w : World) (hs : s.size ≤ maxLen) :
    Calls Tryd.prog 40 #[.string s] w fun e w' => e = .returned (.int .i64 (Fx.len s.data.toList : Nat)) ∧ Below w.heap.size w w' := by
  have HL : Hid (Fx.len s.data.toList = if Fx.spD s.data.toList = Fx.spS s.data.toList then 0 else Fx.spE s.data.toList) := Lib.hid rfl
  have C : (∃ m, m = Fx.len s.data.toList ∧ ∃ x y z : Int, ∀ w : World, Calls Tryd.prog 51 #[.string s] w fun e w' => e = .returned (parts x y z (m : Nat)) ∧ Below w.heap.size w w') := by
    by_cases hn : Fx.spD s.data.toList = Fx.spS s.data.toList
    · exact ⟨0, by unfold Fx.len; rw [if_pos hn], 0, 0, 0, fun w => split_no s w hs hn⟩
    · exact ⟨Fx.spE s.data.toList, by unfold Fx.len; rw [if_neg hn], _, _, _, fun w => split_yes s w hs hn⟩
  clear HL
  obtain ⟨m, hm, x, y, z, C⟩ := C
  have C := Lib.hid C
  rw [← hm]
  clear hm hs
  have hf := field_end x y z m
  go_enter Tryd.func40, Tryd.ntmps40
  go_wp2_with fail
  refine (C.out _).mono ?_
  rintro e w' ⟨rfl, hb⟩
  unfold parts
  go_wp2_with fail
  go_ret
  exact ⟨rfl, hb⟩

end Go.Proofs.YtppgklmliklkkaaDoor
