/-
  Walks of the small functions of the reference's tokens: at, white, Escape, may, Begins, text.
-/
import Derived.Test.YtppgklmliklkkaaGreatDoorGn
import Derived.Test.YtppgklmliklkkaaGreatDoorGj
import Derived.Laws.BytesArg
import Derived.Laws.IdiomStrings
namespace Go.Proofs.YtppgklmliklkkaaGreatDoor
open Go.RowKit

/-- the characters lie there -/
def On (w : World) (l : List Int) (b off : Nat) : Prop := ∀ j, j < l.length → w.cell? ⟨b, off + j, none⟩ = some (.int .i64 (Ru.g l j))
theorem On.below {w w' : World} {l : List Int} {b off : Nat} (h : On w l b off) {B : Nat} (hb : b < B) (hw : Below B w w') : On w' l b off := fun j hj => (hw.cell (p := ⟨b, off + j, none⟩) hb).trans (h j hj)
theorem cast1 (k : Nat) : (k : Int) + 1 = ((k + 1 : Nat) : Int) := by omega
theorem cast2 (k : Nat) : (k : Int) + 2 = ((k + 2 : Nat) : Int) := by omega
theorem cast11 (k : Nat) : (k : Int) + 1 + 1 = ((k + 2 : Nat) : Int) := by omega

set_option maxHeartbeats 400000 in
theorem tat_any (l : List Int) (x : Int) (k : Nat) (hx : x = (k : Int)) (b off cap : Nat) (w : World) (_hm : l.length ≤ 65536) (hp : On w l b off) :
    Calls Tryz.prog 33 #[.slice (some ⟨b, off, none⟩) l.length cap, .int .i64 x] w fun e w' => e = .returned (.int .i64 (Tk.at' l k)) ∧ w = w' := by
  subst hx
  by_cases h : k < l.length
  · have hc := hp k h
    rw [Tk.at_in h]
    generalize Ru.g l k = y at *
    clear hp
    go_enter Tryz.func33, Tryz.ntmps33
    go_wp2_with fail
    go_ret
    exact ⟨rfl, rfl⟩
  · rw [Tk.at_out h]
    clear hp
    go_enter Tryz.func33, Tryz.ntmps33
    go_wp2_with fail
    go_ret
    exact ⟨rfl, rfl⟩

set_option maxHeartbeats 400000 in
theorem twhite_any (c : Int) (w : World) :
    Calls Tryz.prog 32 #[.int .i64 c] w fun e w' => e = .returned (.bool (Ru.whiB c)) ∧ w = w' := by
  by_cases a1 : c = 9
  · subst a1
    go_enter Tryz.func32, Tryz.ntmps32
    go_wp2_with fail
    go_ret
    exact ⟨rfl, rfl⟩
  · by_cases a2 : c = 10
    · subst a2
      go_enter Tryz.func32, Tryz.ntmps32
      go_wp2_with fail
      go_ret
      exact ⟨rfl, rfl⟩
    · by_cases a3 : c = 32
      · subst a3
        go_enter Tryz.func32, Tryz.ntmps32
        go_wp2_with fail
        go_ret
        exact ⟨rfl, rfl⟩
      · have e1 := Ru.eq_f a1
        have e2 := Ru.eq_f a2
        have e3 := Ru.eq_f a3
        go_enter Tryz.func32, Tryz.ntmps32
        go_wp2_with fail
        go_ret
        exact ⟨ret_bool (by unfold Ru.whiB; simp [a1, a2, a3]), rfl⟩

/-- 'at' in one word -/
def AtIs (l : List Int) (b off cap : Nat) (w : World) : Prop := ∀ (x : Int) (k : Nat), x = (k : Int) → Calls Tryz.prog 33 #[.slice (some ⟨b, off, none⟩) l.length cap, .int .i64 x] w fun e w' => e = .returned (.int .i64 (Tk.at' l k)) ∧ w = w'
theorem at_is (l : List Int) (b off cap : Nat) (w : World) (hm : l.length ≤ 65536) (hp : On w l b off) : Hid (AtIs l b off cap w) := Lib.hid fun x k hx => tat_any l x k hx b off cap w hm hp

set_option maxHeartbeats 400000 in
theorem tesc_any (l : List Int) (x : Int) (k : Nat) (hx : x = (k : Int)) (b off cap : Nat) (w : World) (hm : l.length ≤ 65536) (hk : k ≤ 100000) (hp : On w l b off) :
    Calls Tryz.prog 36 #[.slice (some ⟨b, off, none⟩) l.length cap, .int .i64 x] w fun e w' => e = .returned (.bool (Tk.esc l k)) ∧ w = w' := by
  subst hx
  have CT := at_is l b off cap w hm hp
  clear hp
  unfold Tk.esc
  have C0 := Lib.hid (CT.out _ k rfl)
  have C1 := Lib.hid (CT.out _ _ (cast1 k))
  clear CT
  generalize Tk.at' l k = a0 at *
  generalize Tk.at' l (k + 1) = a1 at *
  by_cases e0 : a0 = 92
  · subst e0
    by_cases e1 : 0 ≤ a1
    · by_cases e2 : a1 = 10
      · subst e2
        go_enter Tryz.func36, Tryz.ntmps36
        go_wp2_with (go_at_call 33; first | ((with_reducible refine (C0.out).mono ?_); rintro e w' ⟨rfl, rfl⟩) | ((with_reducible refine (C1.out).mono ?_); rintro e w' ⟨rfl, rfl⟩))
        go_ret
        exact ⟨rfl, rfl⟩
      · have f2 : (a1 != 10) = true := by rw [bne_iff_ne]; exact e2
        go_enter Tryz.func36, Tryz.ntmps36
        go_wp2_with (go_at_call 33; first | ((with_reducible refine (C0.out).mono ?_); rintro e w' ⟨rfl, rfl⟩) | ((with_reducible refine (C1.out).mono ?_); rintro e w' ⟨rfl, rfl⟩))
        go_ret
        exact ⟨ret_bool (by simp [e1, e2]), rfl⟩
    · go_enter Tryz.func36, Tryz.ntmps36
      go_wp2_with (go_at_call 33; first | ((with_reducible refine (C0.out).mono ?_); rintro e w' ⟨rfl, rfl⟩) | ((with_reducible refine (C1.out).mono ?_); rintro e w' ⟨rfl, rfl⟩))
      go_ret
      exact ⟨ret_bool (by simp; omega), rfl⟩
  · have f0 := Ru.eq_f e0
    go_enter Tryz.func36, Tryz.ntmps36
    go_wp2_with (go_at_call 33; first | ((with_reducible refine (C0.out).mono ?_); rintro e w' ⟨rfl, rfl⟩) | ((with_reducible refine (C1.out).mono ?_); rintro e w' ⟨rfl, rfl⟩))
    go_ret
    exact ⟨ret_bool (by simp [e0]), rfl⟩
def EscIs (l : List Int) (b off cap : Nat) (w : World) : Prop := ∀ (x : Int) (k : Nat), x = (k : Int) → k ≤ 100000 → Calls Tryz.prog 36 #[.slice (some ⟨b, off, none⟩) l.length cap, .int .i64 x] w fun e w' => e = .returned (.bool (Tk.esc l k)) ∧ w = w'
theorem esc_is (l : List Int) (b off cap : Nat) (w : World) (hm : l.length ≤ 65536) (hp : On w l b off) : Hid (EscIs l b off cap w) := Lib.hid fun x k hx hk => tesc_any l x k hx b off cap w hm hk hp

set_option maxHeartbeats 400000 in
theorem tmay_any (l : List Int) (x : Int) (k : Nat) (hx : x = (k : Int)) (b off cap : Nat) (w : World) (hm : l.length ≤ 65536) (hk : k ≤ 100000) (hp : On w l b off) :
    Calls Tryz.prog 62 #[.slice (some ⟨b, off, none⟩) l.length cap, .int .i64 x] w fun e w' => e = .returned (.bool (Tk.may l k)) ∧ w = w' := by
  subst hx
  have C0 := Lib.hid ((at_is l b off cap w hm hp).out _ k rfl)
  have C1 := Lib.hid ((esc_is l b off cap w hm hp).out _ k rfl hk)
  clear hp
  unfold Tk.may
  generalize Tk.at' l k = a0 at *
  generalize Tk.esc l k = a1 at *
  cases hb : Ru.begB a0
  all_goals
    go_enter Tryz.func62, Tryz.ntmps62
    go_wp2_with (first | (go_at_call 33; ((with_reducible refine (C0.out).mono ?_); rintro e w' ⟨rfl, rfl⟩)) | (go_at_call 36; ((with_reducible refine (C1.out).mono ?_); rintro e w' ⟨rfl, rfl⟩)) | (go_at_call 59; ((with_reducible refine (rbegins_any _ _).mono ?_); rintro e w' ⟨rfl, rfl⟩)))
    go_ret
    exact ⟨ret_bool (by simp), rfl⟩
def MayIs (l : List Int) (b off cap : Nat) (w : World) : Prop := ∀ (x : Int) (k : Nat), x = (k : Int) → k ≤ 100000 → Calls Tryz.prog 62 #[.slice (some ⟨b, off, none⟩) l.length cap, .int .i64 x] w fun e w' => e = .returned (.bool (Tk.may l k)) ∧ w = w'
theorem may_is (l : List Int) (b off cap : Nat) (w : World) (hm : l.length ≤ 65536) (hp : On w l b off) : Hid (MayIs l b off cap w) := Lib.hid fun x k hx hk => tmay_any l x k hx b off cap w hm hk hp

set_option maxHeartbeats 400000 in
theorem tbegs_any (l : List Int) (x : Int) (k : Nat) (hx : x = (k : Int)) (b off cap : Nat) (w : World) (hm : l.length ≤ 65536) (hk : k ≤ 90000) (hp : On w l b off) :
    Calls Tryz.prog 41 #[.slice (some ⟨b, off, none⟩) l.length cap, .int .i64 x] w fun e w' => e = .returned (.bool (Tk.begs l k)) ∧ w = w' := by
  subst hx
  have C0 := Lib.hid ((at_is l b off cap w hm hp).out _ k rfl)
  have C1 := Lib.hid ((at_is l b off cap w hm hp).out _ _ (cast1 k))
  have D0 := Lib.hid ((may_is l b off cap w hm hp).out _ k rfl (by omega))
  have D1 := Lib.hid ((may_is l b off cap w hm hp).out _ _ (cast1 k) (by omega))
  clear hp
  unfold Tk.begs
  generalize Tk.at' l k = a0 at *
  generalize Tk.at' l (k + 1) = a1 at *
  generalize Tk.may l k = m0 at *
  generalize Tk.may l (k + 1) = m1 at *
  cases m0
  · by_cases e0 : a0 = 45
    · subst e0
      cases m1
      · by_cases e1 : a1 = 45
        · subst e1
          go_enter Tryz.func41, Tryz.ntmps41
          go_wp2_with (first | (go_at_call 33; first | ((with_reducible refine (C0.out).mono ?_); rintro e w' ⟨rfl, rfl⟩) | ((with_reducible refine (C1.out).mono ?_); rintro e w' ⟨rfl, rfl⟩)) | (go_at_call 62; first | ((with_reducible refine (D0.out).mono ?_); rintro e w' ⟨rfl, rfl⟩) | ((with_reducible refine (D1.out).mono ?_); rintro e w' ⟨rfl, rfl⟩)))
          go_ret
          exact ⟨rfl, rfl⟩
        · have f1 := Ru.eq_f e1
          go_enter Tryz.func41, Tryz.ntmps41
          go_wp2_with (first | (go_at_call 33; first | ((with_reducible refine (C0.out).mono ?_); rintro e w' ⟨rfl, rfl⟩) | ((with_reducible refine (C1.out).mono ?_); rintro e w' ⟨rfl, rfl⟩)) | (go_at_call 62; first | ((with_reducible refine (D0.out).mono ?_); rintro e w' ⟨rfl, rfl⟩) | ((with_reducible refine (D1.out).mono ?_); rintro e w' ⟨rfl, rfl⟩)))
          go_ret
          exact ⟨ret_bool (by simp [e1]), rfl⟩
      · go_enter Tryz.func41, Tryz.ntmps41
        go_wp2_with (first | (go_at_call 33; first | ((with_reducible refine (C0.out).mono ?_); rintro e w' ⟨rfl, rfl⟩) | ((with_reducible refine (C1.out).mono ?_); rintro e w' ⟨rfl, rfl⟩)) | (go_at_call 62; first | ((with_reducible refine (D0.out).mono ?_); rintro e w' ⟨rfl, rfl⟩) | ((with_reducible refine (D1.out).mono ?_); rintro e w' ⟨rfl, rfl⟩)))
        go_ret
        exact ⟨rfl, rfl⟩
    · have f0 := Ru.eq_f e0
      go_enter Tryz.func41, Tryz.ntmps41
      go_wp2_with (first | (go_at_call 33; first | ((with_reducible refine (C0.out).mono ?_); rintro e w' ⟨rfl, rfl⟩) | ((with_reducible refine (C1.out).mono ?_); rintro e w' ⟨rfl, rfl⟩)) | (go_at_call 62; first | ((with_reducible refine (D0.out).mono ?_); rintro e w' ⟨rfl, rfl⟩) | ((with_reducible refine (D1.out).mono ?_); rintro e w' ⟨rfl, rfl⟩)))
      go_ret
      exact ⟨ret_bool (by simp [e0]), rfl⟩
  · go_enter Tryz.func41, Tryz.ntmps41
    go_wp2_with (first | (go_at_call 33; first | ((with_reducible refine (C0.out).mono ?_); rintro e w' ⟨rfl, rfl⟩) | ((with_reducible refine (C1.out).mono ?_); rintro e w' ⟨rfl, rfl⟩)) | (go_at_call 62; first | ((with_reducible refine (D0.out).mono ?_); rintro e w' ⟨rfl, rfl⟩) | ((with_reducible refine (D1.out).mono ?_); rintro e w' ⟨rfl, rfl⟩)))
    go_ret
    exact ⟨rfl, rfl⟩
def BegsIs (l : List Int) (b off cap : Nat) (w : World) : Prop := ∀ (x : Int) (k : Nat), x = (k : Int) → k ≤ 90000 → Calls Tryz.prog 41 #[.slice (some ⟨b, off, none⟩) l.length cap, .int .i64 x] w fun e w' => e = .returned (.bool (Tk.begs l k)) ∧ w = w'
theorem begs_is (l : List Int) (b off cap : Nat) (w : World) (hm : l.length ≤ 65536) (hp : On w l b off) : Hid (BegsIs l b off cap w) := Lib.hid fun x k hx hk => tbegs_any l x k hx b off cap w hm hk hp
end Go.Proofs.YtppgklmliklkkaaGreatDoor

/-
  The walk of the reference's Meant: what an escape means.
-/
namespace Go.Proofs.YtppgklmliklkkaaGreatDoor
open Go.RowKit


/-- at the head of Meant's loop -/
def MeantAt (l : List Int) (k : Nat) (v1 v6 v7 : Value) : Prop :=
  ∃ (m j : Nat) (n : Int), m ≤ 6 ∧ v7 = .int .i64 m ∧ v1 = .int .i64 j ∧ v6 = .int .i64 n ∧ j ≤ k + 1 + m ∧ k + 1 + m ≤ j ∧ 0 ≤ n ∧ n ≤ 16777215 ∧ Hid (Tk.hexR (6 - m) l j n = Tk.hexR 6 l (k + 1) 0) ∧ Hid (n < 16 ^ m)

set_option maxHeartbeats 2000000 in
set_option maxRecDepth 100000 in
theorem tmeant_any (l : List Int) (k : Nat) (b off cap : Nat) (w : World) (hm : l.length ≤ 65536) (hk : k + 1 < l.length) (hp : On w l b off) :
    Calls Tryz.prog 58 #[.slice (some ⟨b, off, none⟩) l.length cap, .int .i64 k] w fun e w' => e = .returned (.tuple #[.int .i64 (Tk.meant l k).1, .int .i64 ((Tk.meant l k).2 : Nat)]) ∧ w = w' := by
  have CT := at_is l b off cap w hm hp
  have hcell := hp (k + 1) hk
  clear hp
  go_enter Tryz.func58, Tryz.ntmps58
  go_wp2_with fail
  go_loop [1, 6, 7] (fun v1 v6 v7 => MeantAt l k v1 v6 v7) (fun _ _ v7 => 6 - (RowKit.intOf v7).toNat)
  case atStart => exact ⟨0, k + 1, 0, by omega, rfl, by go_num, rfl, by omega, by omega, by omega, by omega, Lib.hid rfl, Lib.hid (by decide)⟩
  case round =>
    obtain ⟨m, j, n, m1, rfl, rfl, rfl, j1, j2, n1, n2, HR, HN⟩ := hrel
    have C0 := Lib.hid (CT.out _ j rfl)
    by_cases hlt : m < 6
    · by_cases hh : 0 ≤ Ru.hexV (Tk.at' l j)
      · have hle := (Tk.hexV_le (Tk.at' l j)).2
        have HX : Hid (Tk.hexR (6 - (m + 1)) l (j + 1) (n * 16 + Ru.hexV (Tk.at' l j)) = Tk.hexR 6 l (k + 1) 0) := Lib.hid (by
          have := Tk.hexR_yes (f := 6 - (m + 1)) (n := n) hh
          rw [← HR.out, show 6 - m = 6 - (m + 1) + 1 by omega, this])
        have hp5 := Tk.pow16 (m := m) (by omega)
        have hn3 : n ≤ 1048575 := by have := HN.out; omega
        have HN' : Hid (n * 16 + Ru.hexV (Tk.at' l j) < 16 ^ (m + 1)) := Lib.hid (by have := HN.out; rw [Int.pow_succ]; omega)
        clear HN HR hp5 CT hcell
        generalize Tk.at' l j = a at *
        generalize hhx : Ru.hexV a = h at *
        go_wp2_with (first | (go_at_call 33; ((with_reducible refine (C0.out).mono ?_); rintro e w' ⟨rfl, rfl⟩)) | (go_at_call 76; ((with_reducible refine (rhex_any _ _).mono ?_); rintro e w' ⟨rfl, rfl⟩)) | (go_at_call 32; ((with_reducible refine (twhite_any _ _).mono ?_); rintro e w' ⟨rfl, rfl⟩)) | (go_at_call 77; ((with_reducible refine (ris_any _ _).mono ?_); rintro e w' ⟨rfl, rfl⟩)))
        go_round
        case rel => exact ⟨m + 1, j + 1, n * 16 + h, by omega, by go_num, by go_num, rfl, by omega, by omega, by omega, by omega, HX, HN'⟩
        case measure => simp [RowKit.intOf]; omega
      · have HE : Hid (Tk.hexR 6 l (k + 1) 0 = (n, j)) := Lib.hid (by rw [← HR.out, Tk.hexR_no hh])
        clear HR HN
        have hh' : Ru.hexV (Tk.at' l j) < 0 := by omega
        clear hh
        by_cases m0 : m = 0
        · subst m0
          have ej : j = k + 1 := by omega
          have HM := Lib.hid (Tk.meant_none (l := l) (k := k) (n := n) (by rw [HE.out, ej]))
          rw [← ej] at hcell HM
          clear CT HE ej
          generalize Tk.at' l j = a at *
          generalize Ru.g l j = y at *
          go_wp2_with (first | (go_at_call 33; ((with_reducible refine (C0.out).mono ?_); rintro e w' ⟨rfl, rfl⟩)) | (go_at_call 76; ((with_reducible refine (rhex_any _ _).mono ?_); rintro e w' ⟨rfl, rfl⟩)) | (go_at_call 32; ((with_reducible refine (twhite_any _ _).mono ?_); rintro e w' ⟨rfl, rfl⟩)) | (go_at_call 77; ((with_reducible refine (ris_any _ _).mono ?_); rintro e w' ⟨rfl, rfl⟩)))
          go_ret2
          exact ⟨ret_two (by rw [HM.out]) (by first | (rw [HM.out]; done) | (rw [HM.out]; omega)), rfl⟩
        · have HM := Lib.hid (Tk.meant_some HE.out (by omega))
          have em : ((m : Int) == 0) = false := Ru.eq_f (by omega)
          have HK : Hid (Tk.meantK l j = if Ru.whiB (Tk.at' l j) = true then j + 1 else j) := Lib.hid rfl
          clear CT HE hcell
          generalize Tk.at' l j = a at *
          by_cases n0 : n = 0
          · subst n0
            cases hw : Ru.whiB a
            all_goals
              rw [hw] at HK
              go_wp2_with (first | (go_at_call 33; ((with_reducible refine (C0.out).mono ?_); rintro e w' ⟨rfl, rfl⟩)) | (go_at_call 76; ((with_reducible refine (rhex_any _ _).mono ?_); rintro e w' ⟨rfl, rfl⟩)) | (go_at_call 32; ((with_reducible refine (twhite_any _ _).mono ?_); rintro e w' ⟨rfl, rfl⟩)) | (go_at_call 77; ((with_reducible refine (ris_any _ _).mono ?_); rintro e w' ⟨rfl, rfl⟩)))
              go_ret2
              exact ⟨ret_two (by rw [HM.out]; rfl) (by rw [HM.out, HK.out]; simp), rfl⟩
          · have en : ((n : Int) == 0) = false := Ru.eq_f n0
            cases hi : Ru.isB n
            · have HV : Hid (Tk.meantN n = 65533) := Lib.hid (by unfold Tk.meantN; rw [if_pos (Or.inr hi)])
              cases hw : Ru.whiB a
              all_goals
                rw [hw] at HK
                go_wp2_with (first | (go_at_call 33; ((with_reducible refine (C0.out).mono ?_); rintro e w' ⟨rfl, rfl⟩)) | (go_at_call 76; ((with_reducible refine (rhex_any _ _).mono ?_); rintro e w' ⟨rfl, rfl⟩)) | (go_at_call 32; ((with_reducible refine (twhite_any _ _).mono ?_); rintro e w' ⟨rfl, rfl⟩)) | (go_at_call 77; ((with_reducible refine (ris_any _ _).mono ?_); rintro e w' ⟨rfl, rfl⟩)))
                go_ret2
                exact ⟨ret_two (by rw [HM.out, HV.out]) (by rw [HM.out, HK.out]; simp), rfl⟩
            · have HV : Hid (Tk.meantN n = n) := Lib.hid (by unfold Tk.meantN; rw [if_neg (by rw [hi]; simp [n0])])
              cases hw : Ru.whiB a
              all_goals
                rw [hw] at HK
                go_wp2_with (first | (go_at_call 33; ((with_reducible refine (C0.out).mono ?_); rintro e w' ⟨rfl, rfl⟩)) | (go_at_call 76; ((with_reducible refine (rhex_any _ _).mono ?_); rintro e w' ⟨rfl, rfl⟩)) | (go_at_call 32; ((with_reducible refine (twhite_any _ _).mono ?_); rintro e w' ⟨rfl, rfl⟩)) | (go_at_call 77; ((with_reducible refine (ris_any _ _).mono ?_); rintro e w' ⟨rfl, rfl⟩)))
                go_ret2
                exact ⟨ret_two (by rw [HM.out, HV.out]) (by rw [HM.out, HK.out]; simp), rfl⟩
    · have HE : Hid (Tk.hexR 6 l (k + 1) 0 = (n, j)) := Lib.hid (by rw [← HR.out, show 6 - m = 0 by omega]; rfl)
      clear HR HN
      by_cases m0 : m = 0
      · exact absurd (show m < 6 by omega) hlt
      · have HM := Lib.hid (Tk.meant_some HE.out (by omega))
        have em : ((m : Int) == 0) = false := Ru.eq_f (by omega)
        have HK : Hid (Tk.meantK l j = if Ru.whiB (Tk.at' l j) = true then j + 1 else j) := Lib.hid rfl
        clear CT HE hcell
        generalize Tk.at' l j = a at *
        by_cases n0 : n = 0
        · subst n0
          cases hw : Ru.whiB a
          all_goals
            rw [hw] at HK
            go_wp2_with (first | (go_at_call 33; ((with_reducible refine (C0.out).mono ?_); rintro e w' ⟨rfl, rfl⟩)) | (go_at_call 76; ((with_reducible refine (rhex_any _ _).mono ?_); rintro e w' ⟨rfl, rfl⟩)) | (go_at_call 32; ((with_reducible refine (twhite_any _ _).mono ?_); rintro e w' ⟨rfl, rfl⟩)) | (go_at_call 77; ((with_reducible refine (ris_any _ _).mono ?_); rintro e w' ⟨rfl, rfl⟩)))
            go_ret2
            exact ⟨ret_two (by rw [HM.out]; rfl) (by rw [HM.out, HK.out]; simp), rfl⟩
        · have en : ((n : Int) == 0) = false := Ru.eq_f n0
          cases hi : Ru.isB n
          · have HV : Hid (Tk.meantN n = 65533) := Lib.hid (by unfold Tk.meantN; rw [if_pos (Or.inr hi)])
            cases hw : Ru.whiB a
            all_goals
              rw [hw] at HK
              go_wp2_with (first | (go_at_call 33; ((with_reducible refine (C0.out).mono ?_); rintro e w' ⟨rfl, rfl⟩)) | (go_at_call 76; ((with_reducible refine (rhex_any _ _).mono ?_); rintro e w' ⟨rfl, rfl⟩)) | (go_at_call 32; ((with_reducible refine (twhite_any _ _).mono ?_); rintro e w' ⟨rfl, rfl⟩)) | (go_at_call 77; ((with_reducible refine (ris_any _ _).mono ?_); rintro e w' ⟨rfl, rfl⟩)))
              go_ret2
              exact ⟨ret_two (by rw [HM.out, HV.out]) (by rw [HM.out, HK.out]; simp), rfl⟩
          · have HV : Hid (Tk.meantN n = n) := Lib.hid (by unfold Tk.meantN; rw [if_neg (by rw [hi]; simp [n0])])
            cases hw : Ru.whiB a
            all_goals
              rw [hw] at HK
              go_wp2_with (first | (go_at_call 33; ((with_reducible refine (C0.out).mono ?_); rintro e w' ⟨rfl, rfl⟩)) | (go_at_call 76; ((with_reducible refine (rhex_any _ _).mono ?_); rintro e w' ⟨rfl, rfl⟩)) | (go_at_call 32; ((with_reducible refine (twhite_any _ _).mono ?_); rintro e w' ⟨rfl, rfl⟩)) | (go_at_call 77; ((with_reducible refine (ris_any _ _).mono ?_); rintro e w' ⟨rfl, rfl⟩)))
              go_ret2
              exact ⟨ret_two (by rw [HM.out, HV.out]) (by rw [HM.out, HK.out]; simp), rfl⟩
end Go.Proofs.YtppgklmliklkkaaGreatDoor

/-
  The walks of the reference's text and Name.
-/
namespace Go.Proofs.YtppgklmliklkkaaGreatDoor
open Go.RowKit


set_option maxHeartbeats 400000 in
theorem ttext_any (l : List Int) (A : Option Addr) (cap : Nat) (w : World) (hm : l.length ≤ 65536) (hcap : l.length ≤ cap) (hA : Bs w w.heap.size .i64 A l) :
    Calls Tryz.prog 42 #[.slice A l.length cap] w fun e w' => e = .returned (.string (Tk.str l)) ∧ Below w.heap.size w w' := by
  have C1 := Lib.hid ((rwrite_any l A cap w hm hcap hA).mono fun _ _ h => made_form h)
  clear hA
  unfold Tk.str
  generalize Ru.wr l = r at *
  go_enter Tryz.func42, Tryz.ntmps42
  go_wp2_with (go_at_call 63; ((with_reducible refine (C1.out).mono ?_); rintro e w1 ⟨A1, c1, rfl, k1, B1, b1⟩; have cv := conv_bytes c1 B1))
  go_ret
  exact ⟨rfl, b1⟩

/-- at the head of Name's loop -/
def NameAt (l : List Int) (k0 : Nat) (w : World) (v1 v6 : Value) (wr : World) : Prop :=
  ∃ (k : Nat) (ds : List Int), k ≤ l.length ∧ v1 = .int .i64 k ∧ Hid (Tk.name l k0 = (ds ++ (Tk.name l k).1, (Tk.name l k).2)) ∧ wr.ownsRow w.heap.size 3 1 v6 ds.length (nums .i64 ds) ∧ Below w.heap.size w wr ∧ ds.length ≤ k
/-- a name's text, and where it ends -/
def Named (l : List Int) (k : Nat) (w : World) (e : Ending) (w' : World) : Prop := e = .returned (.tuple #[.string (Tk.str (Tk.name l k).1), .int .i64 ((Tk.name l k).2 : Nat)]) ∧ Below w.heap.size w w'

set_option maxHeartbeats 4000000 in
set_option maxRecDepth 100000 in
theorem tname_any (l : List Int) (x : Int) (k0 : Nat) (hx : x = (k0 : Int)) (b off cap : Nat) (w : World) (hm : l.length ≤ 65536) (hk0 : k0 ≤ l.length) (hb : b < w.heap.size) (hp : On w l b off) :
    Calls Tryz.prog 37 #[.slice (some ⟨b, off, none⟩) l.length cap, .int .i64 x] w (Named l k0 w) := by
  subst hx
  obtain ⟨i0, hi, hz0, hz1, hz2⟩ := info_parts Tryz.info3
  have CA : Hid (∀ wr, Below w.heap.size w wr → AtIs l b off cap wr) := Lib.hid fun wr h => (at_is l b off cap wr hm (hp.below hb h)).out
  have CE : Hid (∀ wr, Below w.heap.size w wr → EscIs l b off cap wr) := Lib.hid fun wr h => (esc_is l b off cap wr hm (hp.below hb h)).out
  have CM : Hid (∀ wr (k : Nat), Below w.heap.size w wr → k + 1 < l.length → Calls Tryz.prog 58 #[.slice (some ⟨b, off, none⟩) l.length cap, .int .i64 k] wr fun e w' => e = .returned (.tuple #[.int .i64 (Tk.meant l k).1, .int .i64 ((Tk.meant l k).2 : Nat)]) ∧ wr = w') := Lib.hid fun wr k h hk => tmeant_any l k b off cap wr hm hk (hp.below hb h)
  clear hp
  go_enter Tryz.func37, Tryz.ntmps37
  go_wp2_with fail
  go_loopw [1, 6] (fun v1 v6 wr => NameAt l k0 w v1 v6 wr) (fun v1 _ _ => l.length - (RowKit.intOf v1).toNat)
  case atStart => exact ⟨k0, [], hk0, rfl, Lib.hid rfl, World.ownsRow_nil _ _ _ _, Below.refl _ _, by simp⟩
  case round =>
    obtain ⟨k, ds, hk, rfl, hrd, hown, hbel, hds⟩ := hrel
    have HO := Lib.hid hown
    have HB := Lib.hid hbel
    clear hown hbel
    have A0 := Lib.hid (CA.out wr HB.out _ k rfl)
    have E0 := Lib.hid (CE.out wr HB.out _ k rfl (by omega))
    have hin : Tk.inN l k = (Tk.esc l k || Ru.witB (Tk.at' l k)) := rfl
    have hc3 : ds.length + 1 ≤ maxLen := by unfold maxLen; omega
    have hc4 : (ds.length + 1) * 8 ≤ 140737488355328 := by omega
    cases hI : Tk.inN l k
    · have hN := Tk.name_no hI
      rw [hI] at hin
      have hor : Tk.esc l k = false ∧ Ru.witB (Tk.at' l k) = false := by simpa using hin.symm
      obtain ⟨he, hw⟩ := hor
      have HD : Hid (Tk.name l k0 = (ds, k)) := Lib.hid (by rw [hrd.out, hN, List.append_nil])
      obtain ⟨A1, c1, hv, k1, B1⟩ := own_bs HO.out
      subst hv
      have CT := Lib.hid (ttext_any ds A1 c1 wr (by omega) k1 B1)
      clear hin hN hrd CA CE CM
      generalize Tk.at' l k = a at *
      generalize Tk.esc l k = eb at *
      go_wp2_with (first | (go_at_call 33; ((with_reducible refine (A0.out).mono ?_); rintro e w' ⟨rfl, rfl⟩)) | (go_at_call 36; ((with_reducible refine (E0.out).mono ?_); rintro e w' ⟨rfl, rfl⟩)) | (go_at_call 35; ((with_reducible refine (rwithin_any _ _).mono ?_); rintro e w' ⟨rfl, rfl⟩)) | (go_at_call 42; ((with_reducible refine (CT.out).mono ?_); rintro e w2 ⟨rfl, b2⟩)))
      go_ret2
      exact ⟨by rw [HD.out]; rfl, HB.out.trans (b2.mono HB.out.size)⟩
    · have hone := Tk.oneN_le hI
      have hlt := Tk.inN_lt hI
      have HD : Hid (Tk.name l k0 = ((ds ++ [(Tk.oneN l k).1]) ++ (Tk.name l (Tk.oneN l k).2).1, (Tk.name l (Tk.oneN l k).2).2)) := Lib.hid (by rw [hrd.out, Tk.name_yes hI, List.append_assoc]; rfl)
      by_cases h92 : Tk.at' l k = 92
      · have he := Tk.inN_esc hI h92
        have M0 := Lib.hid (CM.out wr k HB.out (Tk.esc_lt he).1)
        have e1 : Tk.oneN l k = Tk.meant l k := by unfold Tk.oneN; rw [if_pos h92]
        rw [e1] at hone HD
        clear hin hI hrd CA CE CM e1
        generalize Tk.esc l k = eb at *
        subst he
        rw [h92] at A0
        clear h92
        generalize Tk.meant l k = me at *
        obtain ⟨c, k'⟩ := me
        simp only at hone HD M0
        go_wp2_with (first | (go_at_call 33; ((with_reducible refine (A0.out).mono ?_); rintro e w' ⟨rfl, rfl⟩)) | (go_at_call 36; ((with_reducible refine (E0.out).mono ?_); rintro e w' ⟨rfl, rfl⟩)) | (go_at_call 35; ((with_reducible refine (rwithin_any _ _).mono ?_); rintro e w' ⟨rfl, rfl⟩)) | (go_at_call 58; ((with_reducible refine (M0.out).mono ?_); rintro e w' ⟨rfl, rfl⟩)) | (at_builtin; refine wpList_append_own _ rfl _ _ 43 rfl w.heap.size 3 i0 (.int .i64 0) 1 8 Tryz.underlying43 hi hz0 hz1 hz2 rfl (by decide) _ _ _ rfl (HO.out.alloc _) ⟨wr.heap.size, 0, none⟩ 1 1 [.int .i64 c] rfl rfl (one_cell _ _) (one_ok _) hc3 hc4 (alloc_size HB.out.size _) ?_; intro v' w3 hown3 hgrow _; have HO3 := Lib.hid (made_next HO.out HB.out (Below.refl _ _) hown3 hgrow); clear hown3 hgrow))
        go_roundw
        case rel => exact ⟨k', ds ++ [c], hone.2, rfl, HD, HO3.out.1, HO3.out.2, by simp; omega⟩
        case measure => simp [RowKit.intOf]; omega
      · have e1 : Tk.oneN l k = (Tk.at' l k, k + 1) := by unfold Tk.oneN; rw [if_neg h92]
        rw [e1] at hone HD
        have f92 := Ru.eq_f h92
        rw [hI] at hin
        have hor : Tk.esc l k = true ∨ (Tk.esc l k = false ∧ Ru.witB (Tk.at' l k) = true) := by
          cases he : Tk.esc l k
          · rw [he] at hin; right; exact ⟨rfl, by simpa using hin.symm⟩
          · left; rfl
        clear hin hI hrd CA CE CM e1 h92
        generalize Tk.at' l k = a at *
        generalize Tk.esc l k = eb at *
        rcases hor with rfl | ⟨rfl, hw⟩
        all_goals
          go_wp2_with (first | (go_at_call 33; ((with_reducible refine (A0.out).mono ?_); rintro e w' ⟨rfl, rfl⟩)) | (go_at_call 36; ((with_reducible refine (E0.out).mono ?_); rintro e w' ⟨rfl, rfl⟩)) | (go_at_call 35; ((with_reducible refine (rwithin_any _ _).mono ?_); rintro e w' ⟨rfl, rfl⟩)) | (at_builtin; refine wpList_append_own _ rfl _ _ 43 rfl w.heap.size 3 i0 (.int .i64 0) 1 8 Tryz.underlying43 hi hz0 hz1 hz2 rfl (by decide) _ _ _ rfl (HO.out.alloc _) ⟨wr.heap.size, 0, none⟩ 1 1 [.int .i64 a] rfl rfl (one_cell _ _) (one_ok _) hc3 hc4 (alloc_size HB.out.size _) ?_; intro v' w3 hown3 hgrow _; have HO3 := Lib.hid (made_next HO.out HB.out (Below.refl _ _) hown3 hgrow); clear hown3 hgrow))
          go_roundw
          case rel => exact ⟨k + 1, ds ++ [a], by omega, by go_num, HD, HO3.out.1, HO3.out.2, by simp; omega⟩
          case measure => simp [RowKit.intOf]; omega
end Go.Proofs.YtppgklmliklkkaaGreatDoor

/-
  The walk of the reference's quoted.
-/
namespace Go.Proofs.YtppgklmliklkkaaGreatDoor
open Go.RowKit


set_option maxHeartbeats 4000000 in
set_option maxRecDepth 100000 in
theorem tquoted_any (l : List Int) (k0 : Nat) (b off cap : Nat) (w : World) (hm : l.length ≤ 65000) (hk0 : k0 < l.length) (hb : b < w.heap.size) (hp : On w l b off) :
    Calls Tryz.prog 34 #[.slice (some ⟨b, off, none⟩) l.length cap, .int .i64 k0] w (Tokened (Tk.qq l (Ru.g l k0) (k0 + 1)).1 (Tk.str (Tk.qq l (Ru.g l k0) (k0 + 1)).2.1) 0 (Tk.qq l (Ru.g l k0) (k0 + 1)).2.2 w) := by
  obtain ⟨i0, hi, hz0, hz1, hz2⟩ := info_parts Tryz.info3
  have hc0 := hp k0 hk0
  have HP := Lib.hid hp
  have HX : Hid (∃ e, Ru.g l k0 = e) := Lib.hid ⟨_, rfl⟩
  obtain ⟨e, he⟩ := HX.out
  rw [he] at hc0 ⊢
  clear HX hp he
  go_enter Tryz.func34, Tryz.ntmps34
  go_wp2_with fail
  go_loopw [1, 7] (fun v1 v7 wr => QuoAt l e (k0 + 1) w v1 v7 wr) (fun v1 _ _ => l.length + 2 - (RowKit.intOf v1).toNat)
  case atStart => exact ⟨k0 + 1, [], by omega, by go_num, Lib.hid rfl, World.ownsRow_nil _ _ _ _, Lib.hid (Below.refl _ _), by simp⟩
  case round =>
    obtain ⟨k, ds, hk, rfl, hrd, hown, HB, hds⟩ := hrel
    have HO := Lib.hid hown
    clear hown
    have hpw : On wr l b off := fun j hj => (HB.out.cell (p := ⟨b, off + j, none⟩) (by show b < _; omega)).trans ((World.cell?_alloc_lt w _ _ (by exact hb)).trans (HP.out j hj))
    have hc3 : ds.length + 1 ≤ maxLen := by unfold maxLen; omega
    have hc4 : (ds.length + 1) * 8 ≤ 140737488355328 := by omega
    by_cases hlt : k < l.length
    · have hcell := hpw k hlt
      by_cases hge : Ru.g l k = e
      · have hne := Ru.ne_f hge
        have HQ := Tk.qq_end (l := l) (e := e) (k := k) (fun h => h.2 hge)
        have HD : Hid (Tk.qq l e (k0 + 1) = (6, ds, min (k + 1) l.length)) := Lib.hid (by rw [hrd.out, HQ]; simp [Tk.pushes])
        obtain ⟨A1, c1, hv, k1, B1⟩ := own_bs HO.out
        subst hv
        have CT := Lib.hid (ttext_any ds A1 c1 wr (by omega) k1 B1)
        clear hge hpw HQ hrd
        generalize Ru.g l k = y at *
        go_wp2_with (go_at_call 42; ((with_reducible refine (CT.out).mono ?_); rintro e w2 ⟨rfl, b2⟩; have hb2 := quo_below HB.out b2; obtain ⟨z0, z1, z2, f0, f1, f2⟩ := tok_cells hb2))
        refine bodyPost_ret (v := .tuple #[tokV 6 (Tk.str ds) 0, .int .i64 (min ((k : Int) + 1) (l.length : Int))]) (by simp [results, tokV, Tryz.results34, go_sem, z0, z1, z2]) rfl ⟨tok_ret (by rw [HD.out]) (by rw [HD.out]) rfl (by rw [HD.out]; simp only; omega), tok_below hb2 _ _ _⟩
      · have hne := Ru.ne_t hge
        have HQ := Tk.qq_step (l := l) (e := e) (k := k) ⟨hlt, hge⟩
        by_cases h10 : Ru.g l k = 10
        · rw [if_pos h10] at HQ
          have HD : Hid (Tk.qq l e (k0 + 1) = (7, ds, k)) := Lib.hid (by rw [hrd.out, HQ]; simp [Tk.pushes])
          obtain ⟨A1, c1, hv, k1, B1⟩ := own_bs HO.out
          subst hv
          have CT := Lib.hid (ttext_any ds A1 c1 wr (by omega) k1 B1)
          rw [h10] at hcell hne
          clear hge hpw HQ hrd h10
          go_wp2_with (go_at_call 42; ((with_reducible refine (CT.out).mono ?_); rintro e w2 ⟨rfl, b2⟩; have hb2 := quo_below HB.out b2; obtain ⟨z0, z1, z2, f0, f1, f2⟩ := tok_cells hb2))
          refine bodyPost_ret (v := .tuple #[tokV 7 (Tk.str ds) 0, .int .i64 ((k : Int))]) (by simp [results, tokV, Tryz.results34, go_sem, z0, z1, z2]) rfl ⟨tok_ret (by rw [HD.out]) (by rw [HD.out]) rfl (by rw [HD.out]), tok_below hb2 _ _ _⟩
        · rw [if_neg h10] at HQ
          have e10 := Ru.eq_f h10
          have E0 := Lib.hid ((esc_is l b off cap wr (by omega) hpw).out _ k rfl (by omega))
          cases he : Tk.esc l k
          · rw [he, if_neg (by decide)] at HQ
            rw [he] at E0
            by_cases h92 : Ru.g l k = 92
            · rw [if_pos h92] at HQ
              have HD : Hid (Tk.qq l e (k0 + 1) = Tk.pushes ds (Tk.qq l e (k + 2))) := Lib.hid (by rw [hrd.out, HQ])
              rw [h92] at hcell hne e10
              clear hge hpw HQ hrd h10 he h92
              go_wp2_with (go_at_call 36; ((with_reducible refine (E0.out).mono ?_); rintro e w' ⟨rfl, rfl⟩))
              go_roundw
              case rel => exact ⟨k + 2, ds, by omega, by go_num, HD, HO.out, HB, by omega⟩
              case measure => simp [RowKit.intOf]; omega
            · rw [if_neg h92] at HQ
              have e92 := Ru.eq_f h92
              have HD : Hid (Tk.qq l e (k0 + 1) = Tk.pushes (ds ++ [Ru.g l k]) (Tk.qq l e (k + 1))) := Lib.hid (by rw [hrd.out, HQ]; simp [Tk.pushes, Tk.push])
              clear hge hpw HQ hrd h10 he h92
              generalize Ru.g l k = y at *
              go_wp2_with (first | (go_at_call 36; ((with_reducible refine (E0.out).mono ?_); rintro e w' ⟨rfl, rfl⟩)) | (at_builtin; refine wpList_append_own _ rfl _ _ 43 rfl (w.heap.size + 1) 3 i0 (.int .i64 0) 1 8 Tryz.underlying43 hi hz0 hz1 hz2 rfl (by decide) _ _ _ rfl (HO.out.alloc _) ⟨wr.heap.size, 0, none⟩ 1 1 [.int .i64 y] rfl rfl (one_cell _ _) (one_ok _) hc3 hc4 (alloc_size (quo_size HB.out) _) ?_; intro v' w3 hown3 hgrow _; have HO3 := Lib.hid (quo_next HO.out HB.out hown3 hgrow); clear hown3 hgrow))
              go_roundw
              case rel => exact ⟨k + 1, ds ++ [y], by omega, by go_num, HD, HO3.out.1, Lib.hid HO3.out.2, by simp; omega⟩
              case measure => simp [RowKit.intOf]; omega
          · rw [if_pos he] at HQ
            rw [he] at E0
            have M0 := Lib.hid (tmeant_any l k b off cap wr (by omega) (Tk.esc_lt he).1 hpw)
            have hml := Tk.meant_le (Tk.esc_lt he).1
            have HD : Hid (Tk.qq l e (k0 + 1) = Tk.pushes (ds ++ [(Tk.meant l k).1]) (Tk.qq l e (Tk.meant l k).2)) := Lib.hid (by rw [hrd.out, HQ]; simp [Tk.pushes, Tk.push])
            clear hge hpw HQ hrd h10 he
            generalize Ru.g l k = y at *
            generalize Tk.meant l k = me at *
            obtain ⟨c, k'⟩ := me
            simp only at HD M0 hml
            go_wp2_with (first | (go_at_call 36; ((with_reducible refine (E0.out).mono ?_); rintro e w' ⟨rfl, rfl⟩)) | (go_at_call 58; ((with_reducible refine (M0.out).mono ?_); rintro e w' ⟨rfl, rfl⟩)) | (at_builtin; refine wpList_append_own _ rfl _ _ 43 rfl (w.heap.size + 1) 3 i0 (.int .i64 0) 1 8 Tryz.underlying43 hi hz0 hz1 hz2 rfl (by decide) _ _ _ rfl (HO.out.alloc _) ⟨wr.heap.size, 0, none⟩ 1 1 [.int .i64 c] rfl rfl (one_cell _ _) (one_ok _) hc3 hc4 (alloc_size (quo_size HB.out) _) ?_; intro v' w3 hown3 hgrow _; have HO3 := Lib.hid (quo_next HO.out HB.out hown3 hgrow); clear hown3 hgrow))
            go_roundw
            case rel => exact ⟨k', ds ++ [c], by omega, rfl, HD, HO3.out.1, Lib.hid HO3.out.2, by simp; omega⟩
            case measure => simp [RowKit.intOf]; omega
    · have HQ := Tk.qq_end (l := l) (e := e) (k := k) (fun h => hlt h.1)
      have HD : Hid (Tk.qq l e (k0 + 1) = (6, ds, min (k + 1) l.length)) := Lib.hid (by rw [hrd.out, HQ]; simp [Tk.pushes])
      obtain ⟨A1, c1, hv, k1, B1⟩ := own_bs HO.out
      subst hv
      have CT := Lib.hid (ttext_any ds A1 c1 wr (by omega) k1 B1)
      clear hpw HQ hrd
      go_wp2_with (go_at_call 42; ((with_reducible refine (CT.out).mono ?_); rintro e w2 ⟨rfl, b2⟩; have hb2 := quo_below HB.out b2; obtain ⟨z0, z1, z2, f0, f1, f2⟩ := tok_cells hb2))
      refine bodyPost_ret (v := .tuple #[tokV 6 (Tk.str ds) 0, .int .i64 (min ((k : Int) + 1) (l.length : Int))]) (by simp [results, tokV, Tryz.results34, go_sem, z0, z1, z2]) rfl ⟨tok_ret (by rw [HD.out]) (by rw [HD.out]) rfl (by rw [HD.out]; simp only; omega), tok_below hb2 _ _ _⟩
end Go.Proofs.YtppgklmliklkkaaGreatDoor

/-
  The walk of the reference's ascii.
-/
namespace Go.Proofs.YtppgklmliklkkaaGreatDoor
open Go.RowKit


theorem run_load_one (x : Int) (W : World) (E : TypeId) : (loadCells ⟨W.heap.size, 0, none⟩ 1).run Tryz.prog (W.alloc (.cells #[.int .u8 x] E)) = .ok #[.int .u8 x] (W.alloc (.cells #[.int .u8 x] E)) :=
  run_loadCells_list (P := Tryz.prog) _ ⟨W.heap.size, 0, none⟩ [.int .u8 x] (fun j v hj => by
    match j, hj with
    | 0, hj => simp only [List.getElem?_cons_zero, Option.some.injEq] at hj; subst hj; simp [Addr.add, go_sem])
theorem conv_one (x : Int) (W : World) : (convert 22 9 (.slice (some ⟨W.heap.size, 0, none⟩) 1 1)).run Tryz.prog (W.alloc (.cells #[.int .u8 x] 5)) = .ok (.string ⟨#[UInt8.ofNat x.toNat]⟩) (W.alloc (.cells #[.int .u8 x] 5)) := by
  rw [run_convert_bytes_string _ _ _ 5 _ _ _ Tryz.underlying22 Tryz.underlying5 Tryz.underlying9]
  rw [run_bytesToString _ _ _ _ [x] (by rw [run_load_one]; rfl)]
  rfl

theorem ret_str {a b : ByteArray} (h : a = b) : Ending.returned (.string a) = .returned (.string b) := by rw [h]
def AscAt (l : List Int) (k0 : Nat) (w : World) (v1 v5 : Value) (wr : World) : Prop :=
  ∃ (k : Nat) (t : ByteArray) (ds : List Int), k ≤ l.length + k0 ∧ v1 = .int .i64 k ∧ v5 = .string t ∧ Hid (Tk.Sp t ds) ∧ t.size ≤ k ∧ Hid (Tk.ascL l k0 = ds ++ Tk.ascL l k) ∧ Below w.heap.size w wr

set_option maxHeartbeats 1000000 in
set_option maxRecDepth 100000 in
theorem tascii_any (l : List Int) (k0 : Nat) (b off cap : Nat) (w : World) (hm : l.length ≤ 65536) (hk0 : k0 ≤ l.length) (hN : ∀ c ∈ l, 0 ≤ c) (hb : b < w.heap.size) (hp : On w l b off) :
    Calls Tryz.prog 38 #[.slice (some ⟨b, off, none⟩) l.length cap, .int .i64 k0] w fun e w' => e = .returned (.string (strOfNums (Tk.ascL l k0))) ∧ Below w.heap.size w w' := by
  have HP := Lib.hid hp
  have HN := Lib.hid hN
  clear hp hN
  go_enter Tryz.func38, Tryz.ntmps38
  go_wp2_with fail
  go_loopw [1, 5] (fun v1 v5 wr => AscAt l k0 w v1 v5 wr) (fun v1 _ _ => l.length - (RowKit.intOf v1).toNat)
  case atStart => exact ⟨k0, ⟨#[]⟩, [], by omega, rfl, rfl, Lib.hid Tk.sp_nil, by show 0 ≤ _; omega, Lib.hid rfl, Below.refl _ _⟩
  case round =>
    obtain ⟨k, t, ds, hk, rfl, rfl, hs, hsz, hd, hbel⟩ := hrel
    have HB := Lib.hid hbel
    have hbs := hbel.size
    clear hbel
    have hpw : On wr l b off := HP.out.below hb HB.out
    by_cases hlt : k < l.length
    · have hcell := hpw k hlt
      have hx0 := HN.out _ (List.getElem_mem hlt)
      rw [← Ru.g_eq hlt] at hx0
      by_cases h128 : Ru.g l k < 128
      · have hcv := conv_one
        have HD : Hid (Tk.ascL l k0 = (ds ++ [Ru.g l k]) ++ Tk.ascL l (k + 1)) := Lib.hid (by rw [hd.out, Tk.ascL_yes hlt h128, List.append_assoc]; rfl)
        have HS := Lib.hid (Tk.sp_next (x := Ru.g l k) hs.out)
        clear hpw hd
        generalize Ru.g l k = x at *
        go_wp2_with fail
        go_roundw
        case rel => exact ⟨k + 1, _, ds ++ [x], by omega, by go_num, rfl, HS, by simp only [ByteArray.size_append]; show _ + 1 ≤ _; omega, HD, HB.out.alloc hbs _⟩
        case measure => simp [RowKit.intOf]; omega
      · have HD : Hid (Tk.ascL l k0 = ds) := Lib.hid (by rw [hd.out, Tk.ascL_no (fun h => h128 h.2), List.append_nil])
        clear hpw hd
        generalize Ru.g l k = x at *
        go_wp2_with fail
        go_ret
        exact ⟨ret_str (by rw [HD.out]; exact Tk.sp_str hs.out), HB.out⟩
    · have HD : Hid (Tk.ascL l k0 = ds) := Lib.hid (by rw [hd.out, Tk.ascL_no (fun h => hlt h.1), List.append_nil])
      clear hpw hd
      go_wp2_with fail
      go_ret
      exact ⟨ret_str (by rw [HD.out]; exact Tk.sp_str hs.out), HB.out⟩
end Go.Proofs.YtppgklmliklkkaaGreatDoor

/-
  The walk of the reference's Spaces.
-/
namespace Go.Proofs.YtppgklmliklkkaaGreatDoor
open Go.RowKit

def SpAt (l : List Int) (k0 : Nat) (v1 v6 : Value) : Prop := ∃ (k : Nat) (b : Bool), k ≤ l.length ∧ v1 = .int .i64 k ∧ v6 = .bool b ∧ Hid (Tk.sp l k0 false = Tk.sp l k b)
def CmtAt (l : List Int) (j0 : Nat) (v1 : Value) : Prop := ∃ j : Nat, j0 ≤ j ∧ j ≤ l.length ∧ v1 = .int .i64 j ∧ Hid (Tk.cmtE l j0 = Tk.cmtE l j)
theorem ret_ib {k1 : IntKind} {a c : Int} {b d : Bool} (h1 : a = c) (h2 : b = d) : Ending.returned (.tuple #[.int k1 a, .bool b]) = .returned (.tuple #[.int k1 c, .bool d]) := by rw [h1, h2]

set_option maxHeartbeats 4000000 in
set_option maxRecDepth 100000 in
theorem tspaces_any (l : List Int) (k0 : Nat) (b off cap : Nat) (w : World) (hm : l.length ≤ 65536) (hk0 : k0 ≤ l.length) (hp : On w l b off) :
    Calls Tryz.prog 13 #[.slice (some ⟨b, off, none⟩) l.length cap, .int .i64 k0] w fun e w' => e = .returned (.tuple #[.int .i64 ((Tk.sp l k0 false).1 : Nat), .bool (Tk.sp l k0 false).2]) ∧ w = w' := by
  have CT := at_is l b off cap w hm hp
  have HP := Lib.hid hp
  clear hp
  go_enter Tryz.func13, Tryz.ntmps13
  go_wp2_with fail
  go_loop [1, 6] (fun v1 v6 => SpAt l k0 v1 v6) (fun v1 _ => l.length - (RowKit.intOf v1).toNat)
  case atStart => exact ⟨k0, false, hk0, rfl, rfl, Lib.hid rfl⟩
  case round =>
    obtain ⟨k, bb, hk, rfl, rfl, HS⟩ := hrel
    have C0 := Lib.hid (CT.out _ k rfl)
    have C1 := Lib.hid (CT.out _ _ (cast1 k))
    cases hw : Ru.whiB (Tk.at' l k)
    · by_cases h47 : Tk.at' l k = 47
      · by_cases h42 : Tk.at' l (k + 1) = 42
        · have ho : Tk.opn l k = true := by unfold Tk.opn; exact decide_eq_true ⟨h47, h42⟩
          have hlt := Tk.opn_lt ho
          have HX := Lib.hid (Tk.sp_opn (b := bb) hw ho)
          have hcl := Tk.cmt_le ho
          rw [h47] at C0 hw
          rw [h42] at C1
          clear ho h47 h42
          go_wp2_with (first | (go_at_call 33; first | ((with_reducible refine (C0.out).mono ?_); rintro e w' ⟨rfl, rfl⟩) | ((with_reducible refine (C1.out).mono ?_); rintro e w' ⟨rfl, rfl⟩)) | (go_at_call 32; ((with_reducible refine (twhite_any _ _).mono ?_); rintro e w' ⟨rfl, rfl⟩)))
          go_loop [1] (fun v1 => CmtAt l (k + 2) v1) (fun v1 => l.length - (RowKit.intOf v1).toNat)
          case atStart => exact ⟨k + 2, Nat.le_refl _, by omega, by go_num, Lib.hid rfl⟩
          case round =>
            obtain ⟨j, j1, j2, rfl, HC⟩ := hrel
            have D1 := Lib.hid (CT.out _ _ (cast1 j))
            by_cases hj : j < l.length
            · have hcell := HP.out j hj
              by_cases g42 : Ru.g l j = 42
              · by_cases g47 : Tk.at' l (j + 1) = 47
                · have hE := Tk.cmtE_no (l := l) (j := j) (fun h => h.2 ⟨g42, g47⟩)
                  have HJ : Hid (((Tk.cmt l k : Nat) : Int) = min ((j : Int) + 2) (l.length : Int)) := Lib.hid (by unfold Tk.cmt; rw [HC.out, hE]; omega)
                  rw [g42] at hcell
                  rw [g47] at D1
                  clear g42 g47 hE
                  go_wp2_with (go_at_call 33; ((with_reducible refine (D1.out).mono ?_); rintro e w' ⟨rfl, rfl⟩))
                  go_round
                  case rel => exact ⟨Tk.cmt l k, bb, hcl.2, by rw [HJ.out], rfl, Lib.hid (by rw [HS.out, HX.out])⟩
                  case measure => simp [RowKit.intOf]; omega
                · have hE := Lib.hid (Tk.cmtE_yes (l := l) (j := j) ⟨hj, fun h => g47 h.2⟩)
                  have e47 := Ru.eq_f g47
                  rw [g42] at hcell
                  clear g42 g47
                  go_wp2_with (go_at_call 33; ((with_reducible refine (D1.out).mono ?_); rintro e w' ⟨rfl, rfl⟩))
                  go_round
                  case rel => exact ⟨j + 1, by omega, by omega, by go_num, Lib.hid (by rw [HC.out, hE.out])⟩
                  case measure => simp [RowKit.intOf]; omega
              · have hE := Lib.hid (Tk.cmtE_yes (l := l) (j := j) ⟨hj, fun h => g42 h.1⟩)
                have e42 := Ru.eq_f g42
                clear g42
                generalize Ru.g l j = y at *
                go_wp2_with (go_at_call 33; ((with_reducible refine (D1.out).mono ?_); rintro e w' ⟨rfl, rfl⟩))
                go_round
                case rel => exact ⟨j + 1, by omega, by omega, by go_num, Lib.hid (by rw [HC.out, hE.out])⟩
                case measure => simp [RowKit.intOf]; omega
            · have hE := Tk.cmtE_no (l := l) (j := j) (fun h => hj h.1)
              have HJ : Hid (((Tk.cmt l k : Nat) : Int) = min ((j : Int) + 2) (l.length : Int)) := Lib.hid (by unfold Tk.cmt; rw [HC.out, hE]; omega)
              clear hE
              go_wp2_with fail
              go_round
              case rel => exact ⟨Tk.cmt l k, bb, hcl.2, by rw [HJ.out], rfl, Lib.hid (by rw [HS.out, HX.out])⟩
              case measure => simp [RowKit.intOf]; omega
        · have ho : Tk.opn l k = false := by unfold Tk.opn; exact decide_eq_false (fun h => h42 h.2)
          have HX := Lib.hid (Tk.sp_no (b := bb) hw ho)
          have e42 := Ru.eq_f h42
          rw [h47] at C0 hw
          clear ho h47 h42
          go_wp2_with (first | (go_at_call 33; first | ((with_reducible refine (C0.out).mono ?_); rintro e w' ⟨rfl, rfl⟩) | ((with_reducible refine (C1.out).mono ?_); rintro e w' ⟨rfl, rfl⟩)) | (go_at_call 32; ((with_reducible refine (twhite_any _ _).mono ?_); rintro e w' ⟨rfl, rfl⟩)))
          go_ret2
          exact ⟨ret_ib (by rw [HS.out, HX.out]) (by rw [HS.out, HX.out]), rfl⟩
      · have ho : Tk.opn l k = false := by unfold Tk.opn; exact decide_eq_false (fun h => h47 h.1)
        have HX := Lib.hid (Tk.sp_no (b := bb) hw ho)
        have e47 := Ru.eq_f h47
        clear ho h47
        generalize Tk.at' l k = a at *
        go_wp2_with (first | (go_at_call 33; first | ((with_reducible refine (C0.out).mono ?_); rintro e w' ⟨rfl, rfl⟩) | ((with_reducible refine (C1.out).mono ?_); rintro e w' ⟨rfl, rfl⟩)) | (go_at_call 32; ((with_reducible refine (twhite_any _ _).mono ?_); rintro e w' ⟨rfl, rfl⟩)))
        go_ret2
        exact ⟨ret_ib (by rw [HS.out, HX.out]) (by rw [HS.out, HX.out]), rfl⟩
    · have hlt := Tk.whi_lt hw
      have HX := Lib.hid (Tk.sp_white (b := bb) hw)
      generalize Tk.at' l k = a at *
      go_wp2_with (first | (go_at_call 33; first | ((with_reducible refine (C0.out).mono ?_); rintro e w' ⟨rfl, rfl⟩) | ((with_reducible refine (C1.out).mono ?_); rintro e w' ⟨rfl, rfl⟩)) | (go_at_call 32; ((with_reducible refine (twhite_any _ _).mono ?_); rintro e w' ⟨rfl, rfl⟩)))
      go_round
      case rel => exact ⟨k + 1, true, by omega, by go_num, rfl, Lib.hid (by rw [HS.out, HX.out])⟩
      case measure => simp [RowKit.intOf]; omega
end Go.Proofs.YtppgklmliklkkaaGreatDoor
