/-
  The walk of utf8.FullRune, a part.
-/
import Derived.Test.YtgcmjkimiakibaaGreatDoorGay
namespace Go.Proofs.YtgcmjkimiakibaaGreatDoor
open Go.RowKit Go.Lib

set_option maxHeartbeats 4000000 in
set_option maxRecDepth 1000000 in
theorem full_4 (n x0 x1 x2 b off cap : Nat) (w : World) (hn : 1 ≤ n) (hm : n ≤ 9223372036854775807) (hT : Utf8Tabs 0 1 w) (l0 : x0 < 256)
    (hs0 : w.cell? ⟨b, off, none⟩ = some (.int .u8 x0)) (hq1 : 1 < n → w.cell? ⟨b, off + 1, none⟩ = some (.int .u8 x1)) (hq2 : 2 < n → w.cell? ⟨b, off + 2, none⟩ = some (.int .u8 x2)) (hX : firstT x0 = 4) :
    Calls Tryz.prog 89 #[.slice (some ⟨b, off, none⟩) n cap] w fun e w' => e = .returned (.bool (Ru.full n x0 x1 x2)) ∧ Below w.heap.size w w' := by
  have hb : b < w.heap.size := World.block_lt_of_cell? w _ hs0
  have hz0 : ((n : Int) == 0) = false := Ru.eq_f (by omega)
  have hc0 := hT.1 x0 (by omega)
  obtain ⟨_, k1, k2, k3⟩ := Ru.firstT_some (Ru.need_of (x := x0) (by omega))
  rw [hX] at hc0 k1 k2 k3
  have k4 : ¬ x0 < 128 := fun h => by have := Ru.firstT_ascii h; omega
  have ha0 := (hT.2 0 (by omega)).1
  have ha1 := (hT.2 0 (by omega)).2
  simp only [accLo, accHi, Nat.reduceMul, Nat.reduceAdd, Nat.reduceEqDiff, if_true, if_false, Nat.reduceMod, Nat.reduceDiv] at ha0 ha1 k1 k2 k3
  have HX : Hid ((Ru.need (x0 : Int) = 4 ∧ Ru.lo2 (x0 : Int) = 128 ∧ Ru.hi2 (x0 : Int) = 191) ∧ ¬ x0 < 128) := ⟨⟨by omega, by omega, by omega⟩, k4⟩
  clear hX hT k1 k2 k3 k4
  by_cases hsz : 4 ≤ n
  · clear hq1 hq2
    go_enter Tryz.func89, Tryz.ntmps89
    go_wp2
    go_ret
    exact ⟨ret_bool (Ru.full_t (by have := HX.out; omega)).symm, Below.refl _ _⟩
  · rcases (show n = 1 ∨ n = 2 ∨ n = 3 by omega) with rfl | rfl | rfl
    · clear hq1 hq2
      go_enter Tryz.func89, Tryz.ntmps89
      go_wp2
      go_quiet (fail)
      go_wp2
      go_ret
      exact ⟨ret_bool (Ru.full_f (by have := HX.out; omega)).symm, full_end _ _ _⟩
    · have hs1 := hq1 (by omega)
      clear hq1 hq2
      by_cases b1 : (x1 : Int) < 128
      · go_enter Tryz.func89, Tryz.ntmps89
        go_wp2
        go_quiet (fail)
        go_wp2
        go_ret
        exact ⟨ret_bool (Ru.full_t (by have := HX.out; omega)).symm, full_end _ _ _⟩
      · by_cases b2 : (191 : Int) < x1
        · go_enter Tryz.func89, Tryz.ntmps89
          go_wp2
          go_quiet (fail)
          go_wp2
          go_ret
          exact ⟨ret_bool (Ru.full_t (by have := HX.out; omega)).symm, full_end _ _ _⟩
        · go_enter Tryz.func89, Tryz.ntmps89
          go_wp2
          go_quiet (fail)
          go_wp2
          go_ret
          exact ⟨ret_bool (Ru.full_f (by have := HX.out; omega)).symm, full_end _ _ _⟩
    · have hs1 := hq1 (by omega)
      have hs2 := hq2 (by omega)
      clear hq1 hq2
      by_cases b1 : (x1 : Int) < 128
      · go_enter Tryz.func89, Tryz.ntmps89
        go_wp2
        go_quiet (fail)
        go_wp2
        go_ret
        exact ⟨ret_bool (Ru.full_t (by have := HX.out; omega)).symm, full_end _ _ _⟩
      · by_cases b2 : (191 : Int) < x1
        · go_enter Tryz.func89, Tryz.ntmps89
          go_wp2
          go_quiet (fail)
          go_wp2
          go_ret
          exact ⟨ret_bool (Ru.full_t (by have := HX.out; omega)).symm, full_end _ _ _⟩
        · by_cases c1 : (x2 : Int) < 128
          · go_enter Tryz.func89, Tryz.ntmps89
            go_wp2
            go_quiet (fail)
            go_wp2
            go_ret
            exact ⟨ret_bool (Ru.full_t (by have := HX.out; omega)).symm, full_end _ _ _⟩
          · by_cases c2 : (191 : Int) < x2
            · go_enter Tryz.func89, Tryz.ntmps89
              go_wp2
              go_quiet (fail)
              go_wp2
              go_ret
              exact ⟨ret_bool (Ru.full_t (by have := HX.out; omega)).symm, full_end _ _ _⟩
            · go_enter Tryz.func89, Tryz.ntmps89
              go_wp2
              go_quiet (fail)
              go_wp2
              go_ret
              exact ⟨ret_bool (Ru.full_f (by have := HX.out; omega)).symm, full_end _ _ _⟩

set_option maxHeartbeats 4000000 in
set_option maxRecDepth 1000000 in
theorem full_68 (n x0 x1 x2 b off cap : Nat) (w : World) (hn : 1 ≤ n) (hm : n ≤ 9223372036854775807) (hT : Utf8Tabs 0 1 w) (l0 : x0 < 256)
    (hs0 : w.cell? ⟨b, off, none⟩ = some (.int .u8 x0)) (hq1 : 1 < n → w.cell? ⟨b, off + 1, none⟩ = some (.int .u8 x1)) (hq2 : 2 < n → w.cell? ⟨b, off + 2, none⟩ = some (.int .u8 x2)) (hX : firstT x0 = 68) :
    Calls Tryz.prog 89 #[.slice (some ⟨b, off, none⟩) n cap] w fun e w' => e = .returned (.bool (Ru.full n x0 x1 x2)) ∧ Below w.heap.size w w' := by
  have hb : b < w.heap.size := World.block_lt_of_cell? w _ hs0
  have hz0 : ((n : Int) == 0) = false := Ru.eq_f (by omega)
  have hc0 := hT.1 x0 (by omega)
  obtain ⟨_, k1, k2, k3⟩ := Ru.firstT_some (Ru.need_of (x := x0) (by omega))
  rw [hX] at hc0 k1 k2 k3
  have k4 : ¬ x0 < 128 := fun h => by have := Ru.firstT_ascii h; omega
  have ha0 := (hT.2 4 (by omega)).1
  have ha1 := (hT.2 4 (by omega)).2
  simp only [accLo, accHi, Nat.reduceMul, Nat.reduceAdd, Nat.reduceEqDiff, if_true, if_false, Nat.reduceMod, Nat.reduceDiv] at ha0 ha1 k1 k2 k3
  have HX : Hid ((Ru.need (x0 : Int) = 4 ∧ Ru.lo2 (x0 : Int) = 128 ∧ Ru.hi2 (x0 : Int) = 143) ∧ ¬ x0 < 128) := ⟨⟨by omega, by omega, by omega⟩, k4⟩
  clear hX hT k1 k2 k3 k4
  by_cases hsz : 4 ≤ n
  · clear hq1 hq2
    go_enter Tryz.func89, Tryz.ntmps89
    go_wp2
    go_ret
    exact ⟨ret_bool (Ru.full_t (by have := HX.out; omega)).symm, Below.refl _ _⟩
  · rcases (show n = 1 ∨ n = 2 ∨ n = 3 by omega) with rfl | rfl | rfl
    · clear hq1 hq2
      go_enter Tryz.func89, Tryz.ntmps89
      go_wp2
      go_quiet (fail)
      go_wp2
      go_ret
      exact ⟨ret_bool (Ru.full_f (by have := HX.out; omega)).symm, full_end _ _ _⟩
    · have hs1 := hq1 (by omega)
      clear hq1 hq2
      by_cases b1 : (x1 : Int) < 128
      · go_enter Tryz.func89, Tryz.ntmps89
        go_wp2
        go_quiet (fail)
        go_wp2
        go_ret
        exact ⟨ret_bool (Ru.full_t (by have := HX.out; omega)).symm, full_end _ _ _⟩
      · by_cases b2 : (143 : Int) < x1
        · go_enter Tryz.func89, Tryz.ntmps89
          go_wp2
          go_quiet (fail)
          go_wp2
          go_ret
          exact ⟨ret_bool (Ru.full_t (by have := HX.out; omega)).symm, full_end _ _ _⟩
        · go_enter Tryz.func89, Tryz.ntmps89
          go_wp2
          go_quiet (fail)
          go_wp2
          go_ret
          exact ⟨ret_bool (Ru.full_f (by have := HX.out; omega)).symm, full_end _ _ _⟩
    · have hs1 := hq1 (by omega)
      have hs2 := hq2 (by omega)
      clear hq1 hq2
      by_cases b1 : (x1 : Int) < 128
      · go_enter Tryz.func89, Tryz.ntmps89
        go_wp2
        go_quiet (fail)
        go_wp2
        go_ret
        exact ⟨ret_bool (Ru.full_t (by have := HX.out; omega)).symm, full_end _ _ _⟩
      · by_cases b2 : (143 : Int) < x1
        · go_enter Tryz.func89, Tryz.ntmps89
          go_wp2
          go_quiet (fail)
          go_wp2
          go_ret
          exact ⟨ret_bool (Ru.full_t (by have := HX.out; omega)).symm, full_end _ _ _⟩
        · by_cases c1 : (x2 : Int) < 128
          · go_enter Tryz.func89, Tryz.ntmps89
            go_wp2
            go_quiet (fail)
            go_wp2
            go_ret
            exact ⟨ret_bool (Ru.full_t (by have := HX.out; omega)).symm, full_end _ _ _⟩
          · by_cases c2 : (191 : Int) < x2
            · go_enter Tryz.func89, Tryz.ntmps89
              go_wp2
              go_quiet (fail)
              go_wp2
              go_ret
              exact ⟨ret_bool (Ru.full_t (by have := HX.out; omega)).symm, full_end _ _ _⟩
            · go_enter Tryz.func89, Tryz.ntmps89
              go_wp2
              go_quiet (fail)
              go_wp2
              go_ret
              exact ⟨ret_bool (Ru.full_f (by have := HX.out; omega)).symm, full_end _ _ _⟩
end Go.Proofs.YtgcmjkimiakibaaGreatDoor
