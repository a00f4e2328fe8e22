/-
  The walk of the scanner's name.
-/
import Derived.Test.YtgcmjkimiakibaaGreatDoorGbc
import Derived.Test.YtgcmjkimiakibaaGreatDoorGbd
import Derived.Test.YtgcmjkimiakibaaGreatDoorGae
import Derived.ScopeJumps
import Derived.Test.YtgcmjkimiakibaaGreatDoorGac
namespace Go.Proofs.YtgcmjkimiakibaaGreatDoor
open Go.RowKit

section
variable {w : World} {g cap k : Nat} {A : Option Addr} {l : List Int} {pl : ByteArray}
theorem pos_of (S : Sc w g A cap l pl k) : posOf w g = k := by unfold posOf; rw [S.c1]; simp

/-- at the label of name -/
def NamJ (g : Nat) (A : Option Addr) (cap : Nat) (l : List Int) (pl : ByteArray) (k : Nat) (w : World) (a' : Act) (wr : World) : Prop :=
  ∃ (c j : Nat) (ds : List Int) (u5 u6 u7 u8 u9 u10 u11 u12 u13 u14 u15 u16 u17 u18 u19 u20 u21 u22 u23 u24 u25 u26 u27 : Value), a' = { tmps := #[.pointer (some ⟨g, 0, none⟩), undef, .string ⟨#[]⟩, addF c, toldF c, u5, u6, u7, u8, u9, u10, u11, u12, u13, u14, u15, u16, u17, u18, u19, u20, u21, u22, u23, u24, u25, u26, u27], defers := [] } ∧ g < c ∧ w.heap.size ≤ c ∧ j ≤ l.length ∧ ds.length ≤ j ∧ Hid (Tk.name l k = (ds ++ (Tk.name l j).1, (Tk.name l j).2)) ∧ Hid (W32 ds) ∧ Sc wr g A cap l pl j ∧ Ga wr c ds ∧ Mv g w wr

set_option maxRecDepth 100000 in
set_option maxHeartbeats 4000000 in
theorem name_any (hC : Tk.Chr l) (hm : l.length ≤ 65000) (hk : k ≤ l.length) (S : Sc w g A cap l pl k) :
    Calls Tryz.prog 40 #[.pointer (some ⟨g, 0, none⟩)] w (Stp g A cap l pl (Tk.name l k).2 (.string (Tk.str (Tk.name l k).1)) w) := by
  have HC := Lib.hid hC
  have S0 := S.lt
  have M0 := Nat.le_refl w.heap.size
  have M := Mv.refl g w
  clear hC
  go_enter Tryz.func40, Tryz.ntmps40
  go_wp2_with fail
  refine wp_scope_jumps 0 (fun a' wr => NamJ g A cap l pl k w a' wr) (fun _ wr => l.length - posOf wr g) rfl ?_ ?_
  · go_wp2_with (go_at_call 69; ((with_reducible refine (gather_any _).mono ?_); rintro e w1 ⟨c, rfl, hc, G, b1⟩; have S := S.below b1 S.lt; have M := M.then_ b1 M.size; have hgc := Nat.lt_of_lt_of_le S0 hc; have hcs := Nat.le_trans M0 hc; clear b1))
    go_step3
    obtain ⟨ds, hds0⟩ : ∃ ds : List Int, ds = [] := ⟨[], rfl⟩
    rw [← hds0] at G
    have HNM : Hid (Tk.name l k = (ds ++ (Tk.name l k).1, (Tk.name l k).2)) := Lib.hid (by rw [hds0]; rfl)
    have HW : Hid (W32 ds) := Lib.hid (by rw [hds0]; exact fun c hc => absurd hc (by simp))
    have hdl : ds.length ≤ k := by rw [hds0]; simp
    clear hds0
    obtain ⟨j, hj0⟩ : ∃ j : Nat, j = k := ⟨k, rfl⟩
    rw [← hj0] at S hdl
    have hj : j ≤ l.length := by omega
    rw [show (Tk.name l k = (ds ++ (Tk.name l k).1, (Tk.name l k).2)) = (Tk.name l k = (ds ++ (Tk.name l j).1, (Tk.name l j).2)) by rw [hj0]] at HNM
    clear hj0
    have hd : ds.length ≤ 65536 := by omega
    have E0 : Hid (∀ w', Sc w' g A cap l pl j → Calls Tryz.prog 38 #[.pointer (some ⟨g, 0, none⟩), .int .i64 0] w' (Stp g A cap l pl j (.bool (Tk.esc l j)) w')) := Lib.hid fun w' h => escapes_any 0 0 rfl HC.out.pos (by omega) hj (by omega) h
    have C0 : Hid (∀ w', Sc w' g A cap l pl j → Calls Tryz.prog 17 #[.pointer (some ⟨g, 0, none⟩), .int .i64 0] w' (Stp g A cap l pl j (.int .i32 (Tk.at' l j)) w')) := Lib.hid fun w' h => peek_any 0 0 rfl (by omega) hj (by omega) h
    have hin : Tk.inN l j = (Tk.esc l j || Ru.witB (Tk.at' l j)) := rfl
    cases he : Tk.esc l j
    · rw [he] at E0 hin
      cases hw : Ru.witB (Tk.at' l j)
      · rw [hw] at hin
        have HE : Hid (Tk.name l k = (ds, j)) := Lib.hid (by rw [HNM.out, Tk.name_no hin, List.append_nil])
        clear hin HNM he
        generalize Tk.at' l j = a at *
        go_wp2_with (first | (go_at_call 38; (first | (with_reducible refine (E0.out _ S).mono ?_)); rintro e w1 ⟨rfl, S, m1⟩; have G := G.mv m1 hgc; have M := M.trans m1; clear m1) | (go_at_call 17; (first | (with_reducible refine (C0.out _ S).mono ?_)); rintro e w1 ⟨rfl, S, m1⟩; have G := G.mv m1 hgc; have M := M.trans m1; clear m1) | (go_at_call 37; ((with_reducible refine (within_any _ _).mono ?_); rintro e w1 ⟨rfl, rfl⟩)) | (go_at_call 91; ((with_reducible refine (told_any c ds _ hd HW.out G).mono ?_); rintro e w1 ⟨rfl, b1⟩; have S := S.below b1 S.lt; have M := M.then_ b1 M.size; clear b1)))
        simp only [Exit.jump]
        go_ret
        exact ⟨by rw [HE.out]; rfl, by rw [HE.out]; exact S, M⟩
      · rw [hw] at hin
        have hlt := Tk.inN_lt hin
        have h92 : Tk.at' l j ≠ 92 := fun e => by rw [e] at hw; exact absurd hw (by decide)
        have HE : Hid (Tk.name l k = ((ds ++ [Tk.at' l j]) ++ (Tk.name l (j + 1)).1, (Tk.name l (j + 1)).2)) := Lib.hid (by rw [HNM.out, Tk.name_yes hin, List.append_assoc, show Tk.oneN l j = (Tk.at' l j, j + 1) by unfold Tk.oneN; rw [if_neg h92]]; rfl)
        have hab := HC.out.at_ j
        have HW2 : Hid (W32 (ds ++ [Tk.at' l j])) := Lib.hid (HW.out.add (by omega) (by omega))
        have T0 : Hid (∀ w', Sc w' g A cap l pl j → Calls Tryz.prog 39 #[.pointer (some ⟨g, 0, none⟩)] w' (Stp g A cap l pl (j + 1) (.int .i32 (Tk.at' l j)) w')) := Lib.hid fun w' h => take_in (by omega) hlt h
        clear hin HNM he h92
        generalize Tk.at' l j = a at *
        go_wp2_with (first | (go_at_call 38; (first | (with_reducible refine (E0.out _ S).mono ?_)); rintro e w1 ⟨rfl, S, m1⟩; have G := G.mv m1 hgc; have M := M.trans m1; clear m1) | (go_at_call 17; (first | (with_reducible refine (C0.out _ S).mono ?_)); rintro e w1 ⟨rfl, S, m1⟩; have G := G.mv m1 hgc; have M := M.trans m1; clear m1) | (go_at_call 37; ((with_reducible refine (within_any _ _).mono ?_); rintro e w1 ⟨rfl, rfl⟩)) | (go_at_call 39; (first | (with_reducible refine (T0.out _ S).mono ?_)); rintro e w1 ⟨rfl, S, m1⟩; have G := G.mv m1 hgc; have M := M.trans m1; clear m1) | (go_at_call 90; ((with_reducible refine (add_any' c ds a _ hd G).mono ?_); rintro e w1 ⟨rfl, G, b1⟩; have S := S.below b1 hgc; have M := M.then_ b1 hcs; clear b1)))
        go_step3
        exact ⟨rfl, ⟨c, j + 1, ds ++ [a], _, _, _, _, _, _, _, _, _, _, _, _, _, _, _, _, _, _, _, _, _, _, _, rfl, hgc, hcs, by omega, by simp; omega, HE, HW2, S, G, M⟩⟩
    · rw [he] at E0 hin
      have hin' : Tk.inN l j = true := hin
      have hl2 := (Tk.esc_lt he)
      have hml := Tk.meant_le hl2.1
      have hmb := HC.out.meant_ he
      have HE : Hid (Tk.name l k = ((ds ++ [(Tk.meant l j).1]) ++ (Tk.name l (Tk.meant l j).2).1, (Tk.name l (Tk.meant l j).2).2)) := Lib.hid (by rw [HNM.out, Tk.name_yes hin', List.append_assoc, show Tk.oneN l j = Tk.meant l j by unfold Tk.oneN; rw [if_pos hl2.2.1]]; rfl)
      have HW2 : Hid (W32 (ds ++ [(Tk.meant l j).1])) := Lib.hid (HW.out.add (by omega) (by omega))
      have X0 : Hid (∀ w', Sc w' g A cap l pl j → Calls Tryz.prog 70 #[.pointer (some ⟨g, 0, none⟩)] w' (Stp g A cap l pl (Tk.meant l j).2 (.int .i32 (Tk.meant l j).1) w')) := Lib.hid fun w' h => escape_any (by omega) he h
      clear hin hin' HNM he hl2 C0
      generalize Tk.meant l j = me at *
      obtain ⟨y, j2⟩ := me
      simp only at HE HW2 X0 hml hmb
      go_wp2_with (first | (go_at_call 38; (first | (with_reducible refine (E0.out _ S).mono ?_)); rintro e w1 ⟨rfl, S, m1⟩; have G := G.mv m1 hgc; have M := M.trans m1; clear m1) | (go_at_call 70; (first | (with_reducible refine (X0.out _ S).mono ?_)); rintro e w1 ⟨rfl, S, m1⟩; have G := G.mv m1 hgc; have M := M.trans m1; clear m1) | (go_at_call 90; ((with_reducible refine (add_any' c ds y _ hd G).mono ?_); rintro e w1 ⟨rfl, G, b1⟩; have S := S.below b1 hgc; have M := M.then_ b1 hcs; clear b1)))
      go_step3
      exact ⟨rfl, ⟨c, j2, ds ++ [y], _, _, _, _, _, _, _, _, _, _, _, _, _, _, _, _, _, _, _, _, _, _, _, rfl, hgc, hcs, by omega, by simp; omega, HE, HW2, S, G, M⟩⟩
  · rintro a' wr ⟨c, j, ds, u5, u6, u7, u8, u9, u10, u11, u12, u13, u14, u15, u16, u17, u18, u19, u20, u21, u22, u23, u24, u25, u26, u27, rfl, hgc, hcs, hj, hdl, HNM, HW, S, G, M⟩
    have hpos := pos_of S
    rw [hpos]
    clear hpos
    have hd : ds.length ≤ 65536 := by omega
    have E0 : Hid (∀ w', Sc w' g A cap l pl j → Calls Tryz.prog 38 #[.pointer (some ⟨g, 0, none⟩), .int .i64 0] w' (Stp g A cap l pl j (.bool (Tk.esc l j)) w')) := Lib.hid fun w' h => escapes_any 0 0 rfl HC.out.pos (by omega) hj (by omega) h
    have C0 : Hid (∀ w', Sc w' g A cap l pl j → Calls Tryz.prog 17 #[.pointer (some ⟨g, 0, none⟩), .int .i64 0] w' (Stp g A cap l pl j (.int .i32 (Tk.at' l j)) w')) := Lib.hid fun w' h => peek_any 0 0 rfl (by omega) hj (by omega) h
    have hin : Tk.inN l j = (Tk.esc l j || Ru.witB (Tk.at' l j)) := rfl
    cases he : Tk.esc l j
    · rw [he] at E0 hin
      cases hw : Ru.witB (Tk.at' l j)
      · rw [hw] at hin
        have HE : Hid (Tk.name l k = (ds, j)) := Lib.hid (by rw [HNM.out, Tk.name_no hin, List.append_nil])
        clear hin HNM he
        generalize Tk.at' l j = a at *
        go_wp2_with (first | (go_at_call 38; (first | (with_reducible refine (E0.out _ S).mono ?_)); rintro e w1 ⟨rfl, S, m1⟩; have G := G.mv m1 hgc; have M := M.trans m1; clear m1) | (go_at_call 17; (first | (with_reducible refine (C0.out _ S).mono ?_)); rintro e w1 ⟨rfl, S, m1⟩; have G := G.mv m1 hgc; have M := M.trans m1; clear m1) | (go_at_call 37; ((with_reducible refine (within_any _ _).mono ?_); rintro e w1 ⟨rfl, rfl⟩)) | (go_at_call 91; ((with_reducible refine (told_any c ds _ hd HW.out G).mono ?_); rintro e w1 ⟨rfl, b1⟩; have S := S.below b1 S.lt; have M := M.then_ b1 M.size; clear b1)))
        simp only [Exit.jump]
        go_ret
        exact ⟨by rw [HE.out]; rfl, by rw [HE.out]; exact S, M⟩
      · rw [hw] at hin
        have hlt := Tk.inN_lt hin
        have h92 : Tk.at' l j ≠ 92 := fun e => by rw [e] at hw; exact absurd hw (by decide)
        have HE : Hid (Tk.name l k = ((ds ++ [Tk.at' l j]) ++ (Tk.name l (j + 1)).1, (Tk.name l (j + 1)).2)) := Lib.hid (by rw [HNM.out, Tk.name_yes hin, List.append_assoc, show Tk.oneN l j = (Tk.at' l j, j + 1) by unfold Tk.oneN; rw [if_neg h92]]; rfl)
        have hab := HC.out.at_ j
        have HW2 : Hid (W32 (ds ++ [Tk.at' l j])) := Lib.hid (HW.out.add (by omega) (by omega))
        have T0 : Hid (∀ w', Sc w' g A cap l pl j → Calls Tryz.prog 39 #[.pointer (some ⟨g, 0, none⟩)] w' (Stp g A cap l pl (j + 1) (.int .i32 (Tk.at' l j)) w')) := Lib.hid fun w' h => take_in (by omega) hlt h
        clear hin HNM he h92
        generalize Tk.at' l j = a at *
        go_wp2_with (first | (go_at_call 38; (first | (with_reducible refine (E0.out _ S).mono ?_)); rintro e w1 ⟨rfl, S, m1⟩; have G := G.mv m1 hgc; have M := M.trans m1; clear m1) | (go_at_call 17; (first | (with_reducible refine (C0.out _ S).mono ?_)); rintro e w1 ⟨rfl, S, m1⟩; have G := G.mv m1 hgc; have M := M.trans m1; clear m1) | (go_at_call 37; ((with_reducible refine (within_any _ _).mono ?_); rintro e w1 ⟨rfl, rfl⟩)) | (go_at_call 39; (first | (with_reducible refine (T0.out _ S).mono ?_)); rintro e w1 ⟨rfl, S, m1⟩; have G := G.mv m1 hgc; have M := M.trans m1; clear m1) | (go_at_call 90; ((with_reducible refine (add_any' c ds a _ hd G).mono ?_); rintro e w1 ⟨rfl, G, b1⟩; have S := S.below b1 hgc; have M := M.then_ b1 hcs; clear b1)))
        go_step3
        exact ⟨rfl, ⟨c, j + 1, ds ++ [a], _, _, _, _, _, _, _, _, _, _, _, _, _, _, _, _, _, _, _, _, _, _, _, rfl, hgc, hcs, by omega, by simp; omega, HE, HW2, S, G, M⟩, by rw [pos_of S]; omega⟩
    · rw [he] at E0 hin
      have hin' : Tk.inN l j = true := hin
      have hl2 := (Tk.esc_lt he)
      have hml := Tk.meant_le hl2.1
      have hmb := HC.out.meant_ he
      have HE : Hid (Tk.name l k = ((ds ++ [(Tk.meant l j).1]) ++ (Tk.name l (Tk.meant l j).2).1, (Tk.name l (Tk.meant l j).2).2)) := Lib.hid (by rw [HNM.out, Tk.name_yes hin', List.append_assoc, show Tk.oneN l j = Tk.meant l j by unfold Tk.oneN; rw [if_pos hl2.2.1]]; rfl)
      have HW2 : Hid (W32 (ds ++ [(Tk.meant l j).1])) := Lib.hid (HW.out.add (by omega) (by omega))
      have X0 : Hid (∀ w', Sc w' g A cap l pl j → Calls Tryz.prog 70 #[.pointer (some ⟨g, 0, none⟩)] w' (Stp g A cap l pl (Tk.meant l j).2 (.int .i32 (Tk.meant l j).1) w')) := Lib.hid fun w' h => escape_any (by omega) he h
      clear hin hin' HNM he hl2 C0
      generalize Tk.meant l j = me at *
      obtain ⟨y, j2⟩ := me
      simp only at HE HW2 X0 hml hmb
      go_wp2_with (first | (go_at_call 38; (first | (with_reducible refine (E0.out _ S).mono ?_)); rintro e w1 ⟨rfl, S, m1⟩; have G := G.mv m1 hgc; have M := M.trans m1; clear m1) | (go_at_call 70; (first | (with_reducible refine (X0.out _ S).mono ?_)); rintro e w1 ⟨rfl, S, m1⟩; have G := G.mv m1 hgc; have M := M.trans m1; clear m1) | (go_at_call 90; ((with_reducible refine (add_any' c ds y _ hd G).mono ?_); rintro e w1 ⟨rfl, G, b1⟩; have S := S.below b1 hgc; have M := M.then_ b1 hcs; clear b1)))
      go_step3
      exact ⟨rfl, ⟨c, j2, ds ++ [y], _, _, _, _, _, _, _, _, _, _, _, _, _, _, _, _, _, _, _, _, _, _, _, rfl, hgc, hcs, by omega, by simp; omega, HE, HW2, S, G, M⟩, by rw [pos_of S]; omega⟩
end
end Go.Proofs.YtgcmjkimiakibaaGreatDoor

/-
  Walks over strings: afterSign, afterDigits.
-/
namespace Go.Proofs.YtgcmjkimiakibaaGreatDoor
open Go.RowKit

set_option maxHeartbeats 400000 in
theorem afterSign_any (s : ByteArray) (a : Int) (w : World) (hs : s.size ≤ maxLen) (h0 : 0 ≤ a) (h1 : a ≤ s.size) :
    Calls Tryz.prog 112 #[.string s, .int .i64 a] w fun e w' => e = .returned (.int .i64 (Fx.sgn s.data.toList a.toNat : Nat)) ∧ w = w' := by
  unfold maxLen at hs
  obtain ⟨k, rfl⟩ := Int.eq_ofNat_of_zero_le h0
  rw [Int.toNat_natCast]
  by_cases hk : k < s.size
  · have hg := Fx.get_at s k hk
    by_cases h43 : s[k] = 43
    · have hb : ((s[k].toNat : Int) == 43) = true := by rw [h43]; rfl
      have H := Lib.hid hg; clear hg
      have H43 := Lib.hid h43; clear h43
      go_enter Tryz.func112, Tryz.ntmps112
      go_wp2
      go_ret
      exact ⟨ret_int (by rw [Fx.sgn, H.out, H43.out]; simp), rfl⟩
    · have hb : ((s[k].toNat : Int) == 43) = false := by
        rw [Bool.eq_false_iff]; intro h; exact h43 ((byte_eq (by decide)).1 h)
      by_cases h45 : s[k] = 45
      · have hc : ((s[k].toNat : Int) == 45) = true := by rw [h45]; rfl
        have H := Lib.hid hg; clear hg
        have H45 := Lib.hid h45; clear h45 h43
        go_enter Tryz.func112, Tryz.ntmps112
        go_wp2
        go_ret
        exact ⟨ret_int (by rw [Fx.sgn, H.out, H45.out]; simp), rfl⟩
      · have hc : ((s[k].toNat : Int) == 45) = false := by
          rw [Bool.eq_false_iff]; intro h; exact h45 ((byte_eq (by decide)).1 h)
        have H := Lib.hid hg; clear hg
        have H43 := Lib.hid h43; clear h43
        have H45 := Lib.hid h45; clear h45
        go_enter Tryz.func112, Tryz.ntmps112
        go_wp2
        go_ret
        exact ⟨ret_int (by rw [Fx.sgn, H.out, if_neg (by have := H43.out; have := H45.out; simp [*])]), rfl⟩
  · have hg := Fx.get_past s k (by omega)
    have H := Lib.hid hg; clear hg
    go_enter Tryz.func112, Tryz.ntmps112
    go_wp2
    go_ret
    exact ⟨ret_int (by rw [Fx.sgn, H.out]; simp), rfl⟩

set_option maxHeartbeats 400000 in
theorem afterDigits_any (s : ByteArray) (a : Int) (w : World) (hs : s.size ≤ maxLen) (h0 : 0 ≤ a) (h1 : a ≤ s.size) :
    Calls Tryz.prog 113 #[.string s, .int .i64 a] w fun e w' => e = .returned (.int .i64 (Fx.dig s.data.toList a.toNat : Nat)) ∧ w = w' := by
  unfold maxLen at hs
  obtain ⟨j, rfl⟩ := Int.eq_ofNat_of_zero_le h0
  rw [Int.toNat_natCast]
  go_enter Tryz.func113, Tryz.ntmps113
  go_wp2
  go_loop [1] (fun i => ∃ k : Nat, k ≤ s.size ∧ i = .int .i64 k ∧ Hid (Fx.dig s.data.toList j = Fx.dig s.data.toList k)) (fun i => s.size - (intOf i).toNat)
  case atStart => exact ⟨j, by omega, rfl, Lib.hid rfl⟩
  case round =>
    obtain ⟨k, hk, rfl, H⟩ := hrel
    by_cases hlt : k < s.size
    · have G := Lib.hid (Fx.get_at s k hlt)
      by_cases d1 : 48 ≤ (s[k].toNat : Int)
      · by_cases d2 : (s[k].toNat : Int) ≤ 57
        · have Y := Lib.hid (Fx.isD_of d1 d2)
          go_wp2
          go_round
          case rel => exact ⟨k + 1, by omega, by go_num, Lib.hid (by rw [H.out]; exact Fx.dig_yes _ _ (by rw [G.out]; exact Y.out))⟩
          case measure => simp [intOf]; omega
        · have Y := Lib.hid (Fx.isD_not (Or.inr (Int.not_le.1 d2)))
          go_wp2
          go_ret
          exact ⟨ret_int (by rw [H.out, Fx.dig_no _ _ (by rw [G.out]; exact Y.out)]), rfl⟩
      · have Y := Lib.hid (Fx.isD_not (Or.inl (Int.not_le.1 d1)))
        go_wp2
        go_ret
        exact ⟨ret_int (by rw [H.out, Fx.dig_no _ _ (by rw [G.out]; exact Y.out)]), rfl⟩
    · have G := Lib.hid (Fx.get_past s k (by omega))
      go_wp2
      go_ret
      exact ⟨ret_int (by rw [H.out, Fx.dig_no _ _ (by rw [G.out]; exact Fx.isD_zero)]), rfl⟩

end Go.Proofs.YtgcmjkimiakibaaGreatDoor
