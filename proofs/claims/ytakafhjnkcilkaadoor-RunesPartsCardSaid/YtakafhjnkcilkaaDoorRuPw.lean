/-
  The walk of the law RunesParts.
-/
import Derived.Test.YtakafhjnkcilkaaDoorRuR
import Derived.Test.YtakafhjnkcilkaaDoorRuZ
namespace Go.Proofs.YtakafhjnkcilkaaDoor
open Go.RowKit

namespace Ru
theorem By.app {a b : List Int} (ha : By a) (hb : By b) : By (a ++ b) := fun c hc => by
  rcases List.mem_append.1 hc with h | h
  · exact ha c h
  · exact hb c h
end Ru

theorem alloc_below (w : World) (o : Obj) : Below w.heap.size w (w.alloc o) := (Below.refl _ _).alloc (Nat.le_refl _) _
theorem made_below {w w1 : World} {o : Obj} {c : Nat} (h : (w.alloc o).grownBy w1 (Value.slice (some ⟨w.heap.size, 0, none⟩) 0 c).ownBlock) : Below w.heap.size w w1 :=
  (alloc_below w o).grown h (by simp) (fun k hk => by simp [Value.ownBlock] at hk; omega)
theorem ints_made : Hid (∀ (l : List Int) (A : Option Addr) (cap : Nat) (w : World), l.length ≤ 65536 → l.length ≤ cap → (∀ c ∈ l, -2147483648 ≤ c ∧ c ≤ 2147483647) → Bs w w.heap.size .i32 A l → Calls Tryd.prog 12 #[.slice A l.length cap] w (Made .i64 3 l w)) :=
  Lib.hid fun l A cap w h1 h2 h3 h4 => ints_any l A cap w h1 h2 h3 h4
theorem parts_made {w w1 w2 : World} {a b ab : List Int} {v1 v2 : Value} (hab : a ++ b = ab) (hown1 : w1.ownsRow w.heap.size 5 1 v1 (0 + a.length) ([] ++ nums .u8 a)) (hb1 : Below w.heap.size w w1)
    (hown2 : w2.ownsRow w.heap.size 5 1 v2 (0 + a.length + b.length) ([] ++ nums .u8 a ++ nums .u8 b)) (hg : w1.grownBy w2 v1.ownBlock) :
    ∃ A cap, v2 = .slice A ab.length cap ∧ ab.length ≤ cap ∧ Bs w2 w2.heap.size .u8 A ab ∧ Below w.heap.size w w2 := by
  have h : w2.ownsRow w.heap.size 5 1 v2 ab.length (nums .u8 ab) := by
    rw [← hab, nums_app, List.length_append]
    rw [Nat.zero_add, List.nil_append] at hown2
    exact hown2
  obtain ⟨A, cap, e, hc, hB⟩ := own_form h
  exact ⟨A, cap, e, hc, hB, hb1.grown hg hb1.size (fun k hk => (hown1.lt k hk).1)⟩
theorem ownsRow_next {w5 w6 w7 w8 : World} {E : TypeId} {n : Nat} {v : Value} {xs : List Value} (h : w6.ownsRow w5.heap.size E 1 v n xs) (b7 : Below w6.heap.size w6 w7) (b8 : Below w7.heap.size w7 w8) : w8.ownsRow w5.heap.size E 1 v n xs :=
  kept_below h (below_next b7 b8) (Nat.le_refl _)
theorem grow_size {w5 w6 w7 w8 : World} (b6 : Below w5.heap.size w5 w6) (b7 : Below w6.heap.size w6 w7) (b8 : Below w7.heap.size w7 w8) : w5.heap.size ≤ w8.heap.size := Nat.le_trans b6.size (Nat.le_trans b7.size b8.size)
theorem parts_told {w w5 w6 w8 w9 : World} {rA rB r0 : List Int} {v6 v9 : Value} (hre : r0 = rA ++ rB) (b5 : Below w.heap.size w w5) (hown6 : w6.ownsRow w5.heap.size 3 1 v6 rA.length (nums .i64 rA)) (b8 : Below w5.heap.size w5 w8)
    (hown9 : w9.ownsRow w5.heap.size 3 1 v9 (rA.length + rB.length) (nums .i64 rA ++ nums .i64 rB)) (hg : w8.grownBy w9 v6.ownBlock) :
    ∃ A cap, v9 = .slice A r0.length cap ∧ r0.length ≤ cap ∧ Bs w9 w9.heap.size .i64 A r0 ∧ (Below w.heap.size w w9 ∧ Below w5.heap.size w5 w9) := by
  have h : w9.ownsRow w5.heap.size 3 1 v9 r0.length (nums .i64 r0) := by
    rw [hre, nums_app, List.length_append]
    exact hown9
  obtain ⟨A, cap, e, hc, hB⟩ := own_form h
  have h9 : Below w5.heap.size w5 w9 := b8.grown hg b8.size (fun k hk => (hown6.lt k hk).1)
  exact ⟨A, cap, e, hc, hB, below_next b5 h9, h9⟩

set_option maxHeartbeats 4000000 in
set_option maxRecDepth 100000 in
theorem runesParts_walk (a b : List Int) (ha : Ru.By a) (hb : Ru.By b) (A B : Option Addr) (ca cb : Nat) (w : World) (hma : a.length ≤ ca) (hmb : b.length ≤ cb) (hT : Tab w.heap.size w) (hA : Bs w w.heap.size .u8 A a) (hB : Bs w w.heap.size .u8 B b) :
    Calls Tryd.prog 9 #[.slice A a.length ca, .slice B b.length cb] w (Yes w) := by
  have CA := awake_is
  have HT := Lib.hid hT
  by_cases h1 : a.length ≤ 1000
  · by_cases h2 : b.length ≤ 1000
    · by_cases h3 : 0 < b.length
      · obtain ⟨bb, boff, rfl, hbb, hbp⟩ := hB h3
        have hc0 := hbp 0 h3
        rw [Nat.add_zero] at hc0
        have e0 : ((b.length : Int) == 0) = false := Ru.eq_f (by omega)
        obtain ⟨y1, y2⟩ := hb.at_ 0
        by_cases h4 : 128 ≤ Ru.g b 0
        · generalize Ru.g b 0 = y at *
          clear hT hA hB ha hb hbp
          go_enter Tryd.func9, Tryd.ntmps9
          go_wp2_with (go_at_call 10; ((with_reducible refine (CA.out _ HT.out).mono ?_); rintro e w5 ⟨rfl, b5⟩))
          go_ret
          exact ⟨rfl, b5⟩
        · by_cases h5 : Ru.g b 0 = 10
          · rw [h5] at hc0 h4 y1 y2
            clear hT hA hB ha hb hbp h5
            go_enter Tryd.func9, Tryd.ntmps9
            go_wp2_with (go_at_call 10; ((with_reducible refine (CA.out _ HT.out).mono ?_); rintro e w5 ⟨rfl, b5⟩))
            go_ret
            exact ⟨rfl, b5⟩
          · have e10 := Ru.eq_f h5
            have hparts := Ru.rd_parts b (fun h => by rw [h] at h3; simp at h3) (by omega) h5 a.length a (Nat.le_refl _)
            obtain ⟨i5, hi5, hz50, hz51, hz52⟩ := info_parts Tryd.info5
            obtain ⟨i3, hi3, hz30, hz31, hz32⟩ := info_parts Tryd.info3
            have HA := Lib.hid hA
            have HB := Lib.hid hB
            have la := Ru.rd_len' a
            have lb := Ru.rd_len' b
            have HR1 := Lib.hid (Ru.ok_range (Ru.rd_ok ha))
            have HR2 := Lib.hid (Ru.ok_range (Ru.rd_ok hb))
            have HR0 := Lib.hid (Ru.ok_range (Ru.rd_ok (ha.app hb)))
            have CRA : Hid (∀ w1 : World, Below w.heap.size w w1 → Calls Tryd.prog 13 #[.slice A a.length ca] w1 (Told .i32 (Ru.rd a) w1)) := Lib.hid fun w1 h => (read_told a ha A ca w1 (by omega) hma (HT.out.next h) (HA.out.next h)).mono fun _ _ h => told h
            have CRB : Hid (∀ w1 : World, Below w.heap.size w w1 → Calls Tryd.prog 13 #[.slice (some ⟨bb, boff, none⟩) b.length cb] w1 (Told .i32 (Ru.rd b) w1)) := Lib.hid fun w1 h => (read_told b hb _ cb w1 (by omega) hmb (HT.out.next h) (HB.out.next h)).mono fun _ _ h => told h
            have HAB0 : (a ++ b).length = a.length + b.length := List.length_append
            have CR : Hid (∀ (A1 : Option Addr) (c1 : Nat) (w1 : World), (a ++ b).length ≤ c1 → Tab w1.heap.size w1 → Bs w1 w1.heap.size .u8 A1 (a ++ b) → Calls Tryd.prog 13 #[.slice A1 (a ++ b).length c1] w1 (Told .i32 (Ru.rd (a ++ b)) w1)) := Lib.hid fun A1 c1 w1 h1 h2 h3 => (read_told (a ++ b) (ha.app hb) A1 c1 w1 (by omega) h1 h2 h3).mono fun _ _ h => told h
            have HRE := Lib.hid hparts
            have hn0 : (Ru.rd (a ++ b)).length ≤ 65536 := by rw [hparts, List.length_append]; omega
            have hn1 : (Ru.rd a).length ≤ 65536 := by omega
            have hn2 : (Ru.rd b).length ≤ 65536 := by omega
            have CI := ints_is
            have CM := ints_made
            have CS := same_yes
            have HAB : Hid (∃ ab, ab = a ++ b) := Lib.hid ⟨_, rfl⟩
            clear HAB hT hA hB ha hb hbp hparts h5 HAB0
            obtain ⟨ab, hab⟩ : ∃ ab, a ++ b = ab := ⟨_, rfl⟩
            rw [hab] at CR HR0 hn0 HRE
            have HAB := Lib.hid hab
            clear hab
            generalize Ru.rd ab = r0 at *
            generalize Ru.rd a = rA at *
            generalize Ru.rd b = rB at *
            generalize Ru.g b 0 = y at *
            have hq1 : 0 + a.length ≤ maxLen := by unfold maxLen; omega
            have hq2 : (0 + a.length) * 1 ≤ 140737488355328 := by omega
            have hq3 : 0 + a.length + b.length ≤ maxLen := by unfold maxLen; omega
            have hq4 : (0 + a.length + b.length) * 1 ≤ 140737488355328 := by omega
            have hq5 : rA.length + rB.length ≤ maxLen := by unfold maxLen; omega
            have hq6 : (rA.length + rB.length) * 8 ≤ 140737488355328 := by omega
            go_enter Tryd.func9, Tryd.ntmps9
            go_wp2_with (first | (at_builtin; refine wpList_append_nums _ rfl (.tmp 31) (.tmp 32) _ rfl w.heap.size 5 i5 _ 1 Tryd.underlying22 hi5 hz50 hz51 hz52 rfl _ 0 [] rfl (World.ownsRow_made w #[] 0 (Nat.le_refl _) (by decide) rfl) w.heap.size .u8 A a ca rfl (HA.out.below (alloc_below w _)) hq1 hq2 (alloc_size (Nat.le_refl _) _) ?_; intro v1 w1 hown1 hg1 hat1; have HO1 := Lib.hid (And.intro hown1 (made_below hg1)); clear hown1 hg1 hat1) | (at_builtin; refine wpList_append_nums _ rfl (.tmp 33) (.tmp 34) _ rfl w.heap.size 5 i5 _ 1 Tryd.underlying22 hi5 hz50 hz51 hz52 rfl v1 (0 + a.length) ([] ++ nums .u8 a) rfl HO1.out.1 w.heap.size .u8 (some ⟨bb, boff, none⟩) b cb rfl (HB.out.below HO1.out.2) hq3 hq4 HO1.out.2.size ?_; intro v2 w2 hown2 hg2 hat2; obtain ⟨A2, c2, rfl, k2, B2, b2⟩ := parts_made HAB.out HO1.out.1 HO1.out.2 hown2 hg2; clear hown2 hg2 hat2 HO1) | (go_at_call 13; (first | ((with_reducible refine (CR.out _ _ _ k2 (HT.out.next b2) B2).mono ?_); rintro e w3 ⟨A3, c3, rfl, k3, B3, b3⟩) | ((with_reducible refine (CRA.out _ (below_next (below_next b2 b3) b4)).mono ?_); rintro e w5 ⟨A5, c5, rfl, k5, B5, b5⟩) | ((with_reducible refine (CRB.out _ (below_next (below_next (below_next (below_next b2 b3) b4) b5) b6)).mono ?_); rintro e w7 ⟨A7, c7, rfl, k7, B7, b7⟩))) | (go_at_call 12; (first | ((with_reducible refine (CI.out _ A3 c3 _ hn0 k3 HR0.out B3).mono ?_); rintro e w4 ⟨A4, c4, rfl, k4, B4, b4⟩) | ((with_reducible refine (CM.out _ A5 c5 _ hn1 k5 HR1.out B5).mono ?_); rintro e w6 ⟨v6, rfl, hown6, b6⟩; have HO6 := Lib.hid hown6; clear hown6) | ((with_reducible refine (CI.out _ A7 c7 _ hn2 k7 HR2.out B7).mono ?_); rintro e w8 ⟨A8, c8, rfl, k8, B8, b8⟩))) | (at_builtin; refine wpList_append_nums _ rfl (.tmp 40) (.tmp 43) _ rfl w5.heap.size 3 i3 _ 8 Tryd.underlying25 hi3 hz30 hz31 hz32 rfl v6 rA.length (nums .i64 rA) rfl (ownsRow_next HO6.out b7 b8) w8.heap.size .i64 A8 rB c8 rfl B8 hq5 hq6 (grow_size b6 b7 b8) ?_; intro v9 w9 hown9 hg9 hat9; obtain ⟨A9, c9, rfl, k9, B9, b9⟩ := parts_told HRE.out (below_next (below_next (below_next b2 b3) b4) b5) HO6.out (below_next (below_next b6 b7) b8) hown9 hg9; clear hown9 hg9 hat9) | (go_at_call 11; ((with_reducible refine (CS.out _ _ _ _ _ _ hn0 (B4.next (below_next b5 b9.2)) B9).mono ?_); rintro e w10 ⟨rfl, b10⟩)) | (go_at_call 10; ((with_reducible refine (CA.out _ (HT.out.next (below_next b9.1 b10))).mono ?_); rintro e w11 ⟨rfl, b11⟩)))
            go_ret
            exact ⟨rfl, below_next (below_next b9.1 b10) b11⟩
      · have e0 : ((b.length : Int) == 0) = true := Ru.eq_t (by omega)
        clear hT hA hB ha hb
        go_enter Tryd.func9, Tryd.ntmps9
        go_wp2_with (go_at_call 10; ((with_reducible refine (CA.out _ HT.out).mono ?_); rintro e w5 ⟨rfl, b5⟩))
        go_ret
        exact ⟨rfl, b5⟩
    · clear hT hA hB ha hb
      go_enter Tryd.func9, Tryd.ntmps9
      go_wp2_with (go_at_call 10; ((with_reducible refine (CA.out _ HT.out).mono ?_); rintro e w5 ⟨rfl, b5⟩))
      go_ret
      exact ⟨rfl, b5⟩
  · clear hT hA hB ha hb
    go_enter Tryd.func9, Tryd.ntmps9
    go_wp2_with (go_at_call 10; ((with_reducible refine (CA.out _ HT.out).mono ?_); rintro e w5 ⟨rfl, b5⟩))
    go_ret
    exact ⟨rfl, b5⟩
end Go.Proofs.YtakafhjnkcilkaaDoor
