/-
  The walk of Next: numbers.
-/
import Derived.Test.YtppgklmliklkkaaGreatDoorGp
import Derived.Test.YtppgklmliklkkaaGreatDoorGp3
namespace Go.Proofs.YtppgklmliklkkaaGreatDoor
open Go.RowKit

set_option maxHeartbeats 4000000 in
set_option maxRecDepth 100000 in
theorem tnext_num (l : List Int) (k : Nat) (b off cap : Nat) (w : World) (hm : l.length ≤ 65000) (hk : k < l.length) (hN : ∀ c ∈ l, 0 ≤ c) (hb : b < w.heap.size) (hp : On w l b off) (hc : Tk.numB (Ru.g l k) = true) (h0 : 0 < Tk.nlen l k) :
    Calls Tryz.prog 14 #[.slice (some ⟨b, off, none⟩) l.length cap, .int .i64 k] w (Nexted (Tk.nxt l k) w) := by
  have hcs := of_decide_eq_true hc
  have HD := Lib.hid (show Tk.nxt l k = if Tk.begs l (k + Tk.nlen l k) = true then (10, Tk.str (Tk.name l (k + Tk.nlen l k)).1, Tk.nval l k, (Tk.name l (k + Tk.nlen l k)).2) else if Tk.at' l (k + Tk.nlen l k) = 37 then (9, ⟨#[]⟩, Tk.nval l k, k + Tk.nlen l k + 1) else (8, ⟨#[]⟩, Tk.nval l k, k + Tk.nlen l k) by unfold Tk.nxt; rw [if_neg (by omega), if_neg (fun h => by omega), if_pos ⟨hc, h0⟩])
  have hn : Now w (w.alloc (.cells #[.int .i64 0, .string ⟨#[]⟩, .int .i64 0] 31)) := Now.refl w
  have hcell := hp k hk
  have HP := Lib.hid hp
  have CA : Hid (∀ wr, Now w wr → AtIs l b off cap wr) := Lib.hid fun wr h => (at_is l b off cap wr (by omega) (h.on hb HP.out)).out
  have CE : Hid (∀ wr, Now w wr → EscIs l b off cap wr) := Lib.hid fun wr h => (esc_is l b off cap wr (by omega) (h.on hb HP.out)).out
  have CB : Hid (∀ wr, Now w wr → BegsIs l b off cap wr) := Lib.hid fun wr h => (begs_is l b off cap wr (by omega) (h.on hb HP.out)).out
  have CN : Hid (∀ wr, Now w wr → ∀ (x : Int) (j : Nat), x = j → j ≤ l.length → Calls Tryz.prog 37 #[.slice (some ⟨b, off, none⟩) l.length cap, .int .i64 x] wr (Named l j wr)) := Lib.hid fun wr h x j hx hj => tname_any l x j hx b off cap wr (by omega) hj (h.lt hb) (h.on hb HP.out)
  have CS := Lib.hid (tascii_any l k b off cap (w.alloc (.cells #[.int .i64 0, .string ⟨#[]⟩, .int .i64 0] 31)) (by omega) (by omega) hN (hn.lt hb) (hn.on hb hp))
  have CL : Hid (∀ wr, Calls Tryz.prog 39 #[.string (strOfNums (Tk.ascL l k))] wr fun e w' => e = .returned (.int .i64 (Tk.nlen l k : Nat)) ∧ wr = w') := rlength_is _ (by have := Tk.ascL_len l k; rw [strOfNums_size]; omega)
  clear hp hN
  have hsz : Tk.nlen l k ≤ (strOfNums (Tk.ascL l k)).size := by
    have := Fx.len_hi (Tk.numL l k)
    unfold Tk.nlen
    unfold Tk.numL at this ⊢
    rw [Lib.size_eq]
    exact this
  have hle := Tk.nlen_le l k (by omega)
  have hs9 : (strOfNums (Tk.ascL l k)).size ≤ 65000 := by have := Tk.ascL_len l k; rw [strOfNums_size]; omega
  have CP : Hid (∀ wr, Calls Tryz.prog 40 #[.string ((strOfNums (Tk.ascL l k)).extract 0 (Tk.nlen l k))] wr (Pv (Tk.nval l k) wr)) := Lib.hid fun wr => by
    have h := rparse_pv ((strOfNums (Tk.ascL l k)).extract 0 (Tk.nlen l k)) wr (by rw [ByteArray.size_extract]; omega)
    have hx : ((strOfNums (Tk.ascL l k)).extract 0 (Tk.nlen l k)).data.toList = (Tk.numL l k).take (Tk.nlen l k) := by rw [Lib.extract_data]; simp; rfl
    rw [hx] at h
    exact h
  rw [HD.out]
  clear HD hc
  generalize strOfNums (Tk.ascL l k) = s at *
  generalize Tk.nlen l k = n at *
  generalize Ru.g l k = c at *
  generalize Tk.nval l k = v at *
  have hR3 : True = True := rfl
  have hnm := (Tk.name_le l _ (k + n) (Nat.le_refl _) hle).2
  by_cases hR1 : Tk.begs l (k + n) = true
  · rw [if_pos hR1]
    have hR2 : True = True := rfl
    rcases hcs with rfl | rfl | rfl | ⟨d1, d2⟩
    case' inr.inr.inr =>
      have e34 : (c == 34) = false := beq_false_of_ne (by omega)
      have e39 : (c == 39) = false := beq_false_of_ne (by omega)
      have e35 : (c == 35) = false := beq_false_of_ne (by omega)
      have e43 : (c == 43) = false := beq_false_of_ne (by omega)
      have e45 : (c == 45) = false := beq_false_of_ne (by omega)
      have e46 : (c == 46) = false := beq_false_of_ne (by omega)
      have g1 : decide (48 ≤ c) = true := decide_eq_true d1
      have g2 : decide (c ≤ 57) = true := decide_eq_true d2
    all_goals
      go_enter Tryz.func14, Tryz.ntmps14
      go_wp2_with (first | (go_at_call 38; have X := CS.out; (with_reducible refine X.mono ?_); clear X; rintro e w1 ⟨he, b1⟩; (first | rw [hR1] at he | rw [hR2] at he | rw [hR3] at he | skip); subst he; have hn1 := hn.next b1) | (go_at_call 39; have X := CL.out w1; (with_reducible refine X.mono ?_); clear X; rintro e w' ⟨he, rfl⟩; (first | rw [hR1] at he | rw [hR2] at he | rw [hR3] at he | skip); subst he) | (go_at_call 40; have X := CP.out w1; (with_reducible refine X.mono ?_); clear X; rintro e w3 ⟨ok, he, b3⟩; subst he; have hn3 := hn1.next b3; obtain ⟨z0, z1, z2, f0, f1, f2⟩ := tok_cells hn3) | (go_at_call 41; have X := CB.out _ hn3 ((k : Int) + n) (k + n) (by omega) (by omega); (with_reducible refine X.mono ?_); clear X; rintro e w' ⟨he, rfl⟩; (first | rw [hR1] at he | rw [hR2] at he | rw [hR3] at he | skip); subst he) | (go_at_call 37; have X := CN.out _ hn3 ((k : Int) + n) (k + n) (by omega) (by omega); (with_reducible refine X.mono ?_); clear X; rintro e w2 ⟨he, b2⟩; (first | rw [hR1] at he | rw [hR2] at he | rw [hR3] at he | skip); subst he; have hb2 := hn3.next b2; obtain ⟨z0, z1, z2, f0, f1, f2⟩ := tok_cells hb2) | (go_at_call 33; have X := CA.out _ hn3 ((k : Int) + n) (k + n) (by omega); (with_reducible refine X.mono ?_); clear X; rintro e w' ⟨he, rfl⟩; (first | rw [hR1] at he | rw [hR2] at he | rw [hR3] at he | skip); subst he))
      refine bodyPost_ret (v := .tuple #[tokV (10) (Tk.str (Tk.name l (k + n)).1) (v), .int .i64 (((Tk.name l (k + n)).2 : Nat))]) (by simp [results, tokV, Tryz.results14, go_sem, z0, z1, z2]) rfl (nexted rfl rfl hb2 _ _ _)
  · rw [if_neg hR1]
    replace hR1 : Tk.begs l (k + n) = false := by rw [Bool.eq_false_iff]; exact hR1
    by_cases hR2 : Tk.at' l (k + n) = 37
    · rw [if_pos hR2]
      rcases hcs with rfl | rfl | rfl | ⟨d1, d2⟩
      case' inr.inr.inr =>
        have e34 : (c == 34) = false := beq_false_of_ne (by omega)
        have e39 : (c == 39) = false := beq_false_of_ne (by omega)
        have e35 : (c == 35) = false := beq_false_of_ne (by omega)
        have e43 : (c == 43) = false := beq_false_of_ne (by omega)
        have e45 : (c == 45) = false := beq_false_of_ne (by omega)
        have e46 : (c == 46) = false := beq_false_of_ne (by omega)
        have g1 : decide (48 ≤ c) = true := decide_eq_true d1
        have g2 : decide (c ≤ 57) = true := decide_eq_true d2
      all_goals
        go_enter Tryz.func14, Tryz.ntmps14
        go_wp2_with (first | (go_at_call 38; have X := CS.out; (with_reducible refine X.mono ?_); clear X; rintro e w1 ⟨he, b1⟩; (first | rw [hR1] at he | rw [hR2] at he | rw [hR3] at he | skip); subst he; have hn1 := hn.next b1) | (go_at_call 39; have X := CL.out w1; (with_reducible refine X.mono ?_); clear X; rintro e w' ⟨he, rfl⟩; (first | rw [hR1] at he | rw [hR2] at he | rw [hR3] at he | skip); subst he) | (go_at_call 40; have X := CP.out w1; (with_reducible refine X.mono ?_); clear X; rintro e w3 ⟨ok, he, b3⟩; subst he; have hn3 := hn1.next b3; obtain ⟨z0, z1, z2, f0, f1, f2⟩ := tok_cells hn3) | (go_at_call 41; have X := CB.out _ hn3 ((k : Int) + n) (k + n) (by omega) (by omega); (with_reducible refine X.mono ?_); clear X; rintro e w' ⟨he, rfl⟩; (first | rw [hR1] at he | rw [hR2] at he | rw [hR3] at he | skip); subst he) | (go_at_call 37; have X := CN.out _ hn3 ((k : Int) + n) (k + n) (by omega) (by omega); (with_reducible refine X.mono ?_); clear X; rintro e w2 ⟨he, b2⟩; (first | rw [hR1] at he | rw [hR2] at he | rw [hR3] at he | skip); subst he; have hb2 := hn3.next b2; obtain ⟨z0, z1, z2, f0, f1, f2⟩ := tok_cells hb2) | (go_at_call 33; have X := CA.out _ hn3 ((k : Int) + n) (k + n) (by omega); (with_reducible refine X.mono ?_); clear X; rintro e w' ⟨he, rfl⟩; (first | rw [hR1] at he | rw [hR2] at he | rw [hR3] at he | skip); subst he))
        refine bodyPost_ret (v := .tuple #[tokV (9) (⟨#[]⟩) (v), .int .i64 ((k : Int) + n + 1)]) (by simp [results, tokV, Tryz.results14, go_sem, z0, z1, z2]) rfl (nexted rfl (by omega) hn3 _ _ _)
    · rw [if_neg hR2]
      have e37 := beq_false_of_ne hR2
      rcases hcs with rfl | rfl | rfl | ⟨d1, d2⟩
      case' inr.inr.inr =>
        have e34 : (c == 34) = false := beq_false_of_ne (by omega)
        have e39 : (c == 39) = false := beq_false_of_ne (by omega)
        have e35 : (c == 35) = false := beq_false_of_ne (by omega)
        have e43 : (c == 43) = false := beq_false_of_ne (by omega)
        have e45 : (c == 45) = false := beq_false_of_ne (by omega)
        have e46 : (c == 46) = false := beq_false_of_ne (by omega)
        have g1 : decide (48 ≤ c) = true := decide_eq_true d1
        have g2 : decide (c ≤ 57) = true := decide_eq_true d2
      all_goals
        go_enter Tryz.func14, Tryz.ntmps14
        go_wp2_with (first | (go_at_call 38; have X := CS.out; (with_reducible refine X.mono ?_); clear X; rintro e w1 ⟨he, b1⟩; (first | rw [hR1] at he | rw [hR2] at he | rw [hR3] at he | skip); subst he; have hn1 := hn.next b1) | (go_at_call 39; have X := CL.out w1; (with_reducible refine X.mono ?_); clear X; rintro e w' ⟨he, rfl⟩; (first | rw [hR1] at he | rw [hR2] at he | rw [hR3] at he | skip); subst he) | (go_at_call 40; have X := CP.out w1; (with_reducible refine X.mono ?_); clear X; rintro e w3 ⟨ok, he, b3⟩; subst he; have hn3 := hn1.next b3; obtain ⟨z0, z1, z2, f0, f1, f2⟩ := tok_cells hn3) | (go_at_call 41; have X := CB.out _ hn3 ((k : Int) + n) (k + n) (by omega) (by omega); (with_reducible refine X.mono ?_); clear X; rintro e w' ⟨he, rfl⟩; (first | rw [hR1] at he | rw [hR2] at he | rw [hR3] at he | skip); subst he) | (go_at_call 37; have X := CN.out _ hn3 ((k : Int) + n) (k + n) (by omega) (by omega); (with_reducible refine X.mono ?_); clear X; rintro e w2 ⟨he, b2⟩; (first | rw [hR1] at he | rw [hR2] at he | rw [hR3] at he | skip); subst he; have hb2 := hn3.next b2; obtain ⟨z0, z1, z2, f0, f1, f2⟩ := tok_cells hb2) | (go_at_call 33; have X := CA.out _ hn3 ((k : Int) + n) (k + n) (by omega); (with_reducible refine X.mono ?_); clear X; rintro e w' ⟨he, rfl⟩; (first | rw [hR1] at he | rw [hR2] at he | rw [hR3] at he | skip); subst he))
        refine bodyPost_ret (v := .tuple #[tokV (8) (⟨#[]⟩) (v), .int .i64 ((k : Int) + n)]) (by simp [results, tokV, Tryz.results14, go_sem, z0, z1, z2]) rfl (nexted rfl (by omega) hn3 _ _ _)
end Go.Proofs.YtppgklmliklkkaaGreatDoor

/-
  The walk of the reference's Next, in one.
-/
namespace Go.Proofs.YtppgklmliklkkaaGreatDoor
open Go.RowKit

theorem tnext_any (l : List Int) (k : Nat) (b off cap : Nat) (w : World) (hm : l.length ≤ 65000) (hk : k < l.length) (hN : ∀ c ∈ l, 0 ≤ c) (hb : b < w.heap.size) (hp : On w l b off) :
    Calls Tryz.prog 14 #[.slice (some ⟨b, off, none⟩) l.length cap, .int .i64 k] w (Nexted (Tk.nxt l k) w) := by
  by_cases c1 : Ru.g l k = 34 ∨ Ru.g l k = 39
  · exact tnext_quote l k b off cap w hm hk hN hb hp c1
  by_cases c2 : Ru.g l k = 35 ∧ (Ru.witB (Tk.at' l (k + 1)) = true ∨ Tk.esc l (k + 1) = true)
  · exact tnext_hash l k b off cap w hm hk hN hb hp c2.1 c2.2
  by_cases c3 : Tk.numB (Ru.g l k) = true ∧ 0 < Tk.nlen l k
  · exact tnext_num l k b off cap w hm hk hN hb hp c3.1 c3.2
  have hpast : Tk.Past l k := ⟨fun h => c1 (.inl h), fun h => c1 (.inr h),
    fun h => ⟨by rw [Bool.eq_false_iff]; exact fun h2 => c2 ⟨h, .inl h2⟩, by rw [Bool.eq_false_iff]; exact fun h2 => c2 ⟨h, .inr h2⟩⟩,
    fun h => Nat.eq_zero_of_not_pos fun h2 => c3 ⟨h, h2⟩⟩
  by_cases c4 : Ru.g l k = 64 ∧ Tk.begs l (k + 1) = true
  · exact tnext_atkey l k b off cap w hm hk hN hb hp c4.1 c4.2
  have h64 : Ru.g l k = 64 → Tk.begs l (k + 1) = false := fun h => by rw [Bool.eq_false_iff]; exact fun h2 => c4 ⟨h, h2⟩
  by_cases c5 : Tk.begs l k = true
  · exact tnext_name l k b off cap w hm hk hN hb hp hpast c5 h64
  have hb0 : Tk.begs l k = false := by rw [Bool.eq_false_iff]; exact c5
  by_cases c6 : Ru.g l k = 58
  · exact tnext_colon l k b off cap w hm hk hN hb hp c6
  by_cases c7 : Ru.g l k = 59
  · exact tnext_semi l k b off cap w hm hk hN hb hp c7
  by_cases c8 : Ru.g l k = 44
  · exact tnext_comma l k b off cap w hm hk hN hb hp c8
  exact tnext_sym l k b off cap w hm hk hN hb hp hpast hb0 h64 c6 c7 c8
end Go.Proofs.YtppgklmliklkkaaGreatDoor
