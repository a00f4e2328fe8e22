/-
  The walk of utf8.FullRune.
-/
import Derived.Test.YtppgklmliklkkaaDoorGk
namespace Go.Proofs.YtppgklmliklkkaaDoor
open Go.RowKit Go.Lib

namespace Ru
theorem need_of {x : Nat} (h : firstT x < 240) : need (x : Int) ≠ 0 := fun h0 => by
  by_cases h1 : x < 128
  · rw [firstT_ascii h1] at h; omega
  · rw [firstT_none h1 h0] at h; omega
theorem ascii_of {x : Nat} (h : firstT x = 240) : x < 128 := by
  by_cases h1 : x < 128
  · exact h1
  · by_cases h0 : need (x : Int) = 0
    · rw [firstT_none h1 h0] at h; omega
    · have := (firstT_some h0).1; omega
theorem none_of {x : Nat} (h : firstT x = 241) : need (x : Int) = 0 := by
  by_cases h0 : need (x : Int) = 0
  · exact h0
  · have := (firstT_some h0).1; omega
theorem full_t {m a b c : Int} (h : (a < 128 ∨ need a ≤ m) ∨ (1 < m ∧ (b < lo2 a ∨ hi2 a < b)) ∨ (2 < m ∧ (c < 128 ∨ 191 < c))) : full m a b c = true := decide_eq_true h
theorem full_f {m a b c : Int} (h : ¬ ((a < 128 ∨ need a ≤ m) ∨ (1 < m ∧ (b < lo2 a ∨ hi2 a < b)) ∨ (2 < m ∧ (c < 128 ∨ 191 < c)))) : full m a b c = false := decide_eq_false h
end Ru

theorem full_end (w : World) (o : Obj) (n : Nat) : Below w.heap.size w ((w.alloc o).drewN n) := below_drewN ((Below.refl _ _).alloc (Nat.le_refl _) _) _
end Go.Proofs.YtppgklmliklkkaaDoor

/-
  The walk of utf8.FullRune, a part.
-/
namespace Go.Proofs.YtppgklmliklkkaaDoor
open Go.RowKit Go.Lib

set_option maxHeartbeats 4000000 in
set_option maxRecDepth 1000000 in
theorem full_240 (n x0 x1 x2 b off cap : Nat) (w : World) (hn : 1 ≤ n) (hm : n ≤ 9223372036854775807) (hT : Utf8Tabs 0 1 w) (l0 : x0 < 256)
    (hs0 : w.cell? ⟨b, off, none⟩ = some (.int .u8 x0)) (_hq1 : 1 < n → w.cell? ⟨b, off + 1, none⟩ = some (.int .u8 x1)) (_hq2 : 2 < n → w.cell? ⟨b, off + 2, none⟩ = some (.int .u8 x2)) (hX : firstT x0 = 240) :
    Calls Tryd.prog 45 #[.slice (some ⟨b, off, none⟩) n cap] w fun e w' => e = .returned (.bool (Ru.full n x0 x1 x2)) ∧ Below w.heap.size w w' := by
  have hb : b < w.heap.size := World.block_lt_of_cell? w _ hs0
  have hz0 : ((n : Int) == 0) = false := Ru.eq_f (by omega)
  have hc0 := hT.1 x0 (by omega)
  have hF : Ru.full n x0 x1 x2 = true := Ru.full_t (Or.inl (Or.inl (by have := Ru.ascii_of hX; omega)))
  rw [hX] at hc0
  have HF := Lib.hid hF
  clear hF hX hT
  go_enter Tryd.func45, Tryd.ntmps45
  go_wp2
  go_ret
  exact ⟨ret_bool HF.out.symm, Below.refl _ _⟩

set_option maxHeartbeats 4000000 in
set_option maxRecDepth 1000000 in
theorem full_241 (n x0 x1 x2 b off cap : Nat) (w : World) (hn : 1 ≤ n) (hm : n ≤ 9223372036854775807) (hT : Utf8Tabs 0 1 w) (l0 : x0 < 256)
    (hs0 : w.cell? ⟨b, off, none⟩ = some (.int .u8 x0)) (_hq1 : 1 < n → w.cell? ⟨b, off + 1, none⟩ = some (.int .u8 x1)) (_hq2 : 2 < n → w.cell? ⟨b, off + 2, none⟩ = some (.int .u8 x2)) (hX : firstT x0 = 241) :
    Calls Tryd.prog 45 #[.slice (some ⟨b, off, none⟩) n cap] w fun e w' => e = .returned (.bool (Ru.full n x0 x1 x2)) ∧ Below w.heap.size w w' := by
  have hb : b < w.heap.size := World.block_lt_of_cell? w _ hs0
  have hz0 : ((n : Int) == 0) = false := Ru.eq_f (by omega)
  have hc0 := hT.1 x0 (by omega)
  have hF : Ru.full n x0 x1 x2 = true := Ru.full_t (Or.inl (Or.inr (by have := Ru.none_of hX; omega)))
  rw [hX] at hc0
  have HF := Lib.hid hF
  clear hF hX hT
  go_enter Tryd.func45, Tryd.ntmps45
  go_wp2
  go_ret
  exact ⟨ret_bool HF.out.symm, Below.refl _ _⟩

set_option maxHeartbeats 4000000 in
set_option maxRecDepth 1000000 in
theorem full_2 (n x0 x1 x2 b off cap : Nat) (w : World) (hn : 1 ≤ n) (hm : n ≤ 9223372036854775807) (hT : Utf8Tabs 0 1 w) (l0 : x0 < 256)
    (hs0 : w.cell? ⟨b, off, none⟩ = some (.int .u8 x0)) (hq1 : 1 < n → w.cell? ⟨b, off + 1, none⟩ = some (.int .u8 x1)) (hq2 : 2 < n → w.cell? ⟨b, off + 2, none⟩ = some (.int .u8 x2)) (hX : firstT x0 = 2) :
    Calls Tryd.prog 45 #[.slice (some ⟨b, off, none⟩) n cap] w fun e w' => e = .returned (.bool (Ru.full n x0 x1 x2)) ∧ Below w.heap.size w w' := by
  have hb : b < w.heap.size := World.block_lt_of_cell? w _ hs0
  have hz0 : ((n : Int) == 0) = false := Ru.eq_f (by omega)
  have hc0 := hT.1 x0 (by omega)
  obtain ⟨_, k1, k2, k3⟩ := Ru.firstT_some (Ru.need_of (x := x0) (by omega))
  rw [hX] at hc0 k1 k2 k3
  have k4 : ¬ x0 < 128 := fun h => by have := Ru.firstT_ascii h; omega
  have ha0 := (hT.2 0 (by omega)).1
  have ha1 := (hT.2 0 (by omega)).2
  simp only [accLo, accHi, Nat.reduceMul, Nat.reduceAdd, Nat.reduceEqDiff, if_true, if_false, Nat.reduceMod, Nat.reduceDiv] at ha0 ha1 k1 k2 k3
  have HX : Hid ((Ru.need (x0 : Int) = 2 ∧ Ru.lo2 (x0 : Int) = 128 ∧ Ru.hi2 (x0 : Int) = 191) ∧ ¬ x0 < 128) := ⟨⟨by omega, by omega, by omega⟩, k4⟩
  clear hX hT k1 k2 k3 k4
  by_cases hsz : 2 ≤ n
  · clear hq1 hq2
    go_enter Tryd.func45, Tryd.ntmps45
    go_wp2
    go_ret
    exact ⟨ret_bool (Ru.full_t (by have := HX.out; omega)).symm, Below.refl _ _⟩
  · rcases (show n = 1 by omega) with rfl
    clear hq1 hq2
    go_enter Tryd.func45, Tryd.ntmps45
    go_wp2
    go_quiet (fail)
    go_wp2
    go_ret
    exact ⟨ret_bool (Ru.full_f (by have := HX.out; omega)).symm, full_end _ _ _⟩

set_option maxHeartbeats 4000000 in
set_option maxRecDepth 1000000 in
theorem full_19 (n x0 x1 x2 b off cap : Nat) (w : World) (hn : 1 ≤ n) (hm : n ≤ 9223372036854775807) (hT : Utf8Tabs 0 1 w) (l0 : x0 < 256)
    (hs0 : w.cell? ⟨b, off, none⟩ = some (.int .u8 x0)) (hq1 : 1 < n → w.cell? ⟨b, off + 1, none⟩ = some (.int .u8 x1)) (hq2 : 2 < n → w.cell? ⟨b, off + 2, none⟩ = some (.int .u8 x2)) (hX : firstT x0 = 19) :
    Calls Tryd.prog 45 #[.slice (some ⟨b, off, none⟩) n cap] w fun e w' => e = .returned (.bool (Ru.full n x0 x1 x2)) ∧ Below w.heap.size w w' := by
  have hb : b < w.heap.size := World.block_lt_of_cell? w _ hs0
  have hz0 : ((n : Int) == 0) = false := Ru.eq_f (by omega)
  have hc0 := hT.1 x0 (by omega)
  obtain ⟨_, k1, k2, k3⟩ := Ru.firstT_some (Ru.need_of (x := x0) (by omega))
  rw [hX] at hc0 k1 k2 k3
  have k4 : ¬ x0 < 128 := fun h => by have := Ru.firstT_ascii h; omega
  have ha0 := (hT.2 1 (by omega)).1
  have ha1 := (hT.2 1 (by omega)).2
  simp only [accLo, accHi, Nat.reduceMul, Nat.reduceAdd, Nat.reduceEqDiff, if_true, if_false, Nat.reduceMod, Nat.reduceDiv] at ha0 ha1 k1 k2 k3
  have HX : Hid ((Ru.need (x0 : Int) = 3 ∧ Ru.lo2 (x0 : Int) = 160 ∧ Ru.hi2 (x0 : Int) = 191) ∧ ¬ x0 < 128) := ⟨⟨by omega, by omega, by omega⟩, k4⟩
  clear hX hT k1 k2 k3 k4
  by_cases hsz : 3 ≤ n
  · clear hq1 hq2
    go_enter Tryd.func45, Tryd.ntmps45
    go_wp2
    go_ret
    exact ⟨ret_bool (Ru.full_t (by have := HX.out; omega)).symm, Below.refl _ _⟩
  · rcases (show n = 1 ∨ n = 2 by omega) with rfl | rfl
    · clear hq1 hq2
      go_enter Tryd.func45, Tryd.ntmps45
      go_wp2
      go_quiet (fail)
      go_wp2
      go_ret
      exact ⟨ret_bool (Ru.full_f (by have := HX.out; omega)).symm, full_end _ _ _⟩
    · have hs1 := hq1 (by omega)
      clear hq1 hq2
      by_cases b1 : (x1 : Int) < 160
      · go_enter Tryd.func45, Tryd.ntmps45
        go_wp2
        go_quiet (fail)
        go_wp2
        go_ret
        exact ⟨ret_bool (Ru.full_t (by have := HX.out; omega)).symm, full_end _ _ _⟩
      · by_cases b2 : (191 : Int) < x1
        · go_enter Tryd.func45, Tryd.ntmps45
          go_wp2
          go_quiet (fail)
          go_wp2
          go_ret
          exact ⟨ret_bool (Ru.full_t (by have := HX.out; omega)).symm, full_end _ _ _⟩
        · go_enter Tryd.func45, Tryd.ntmps45
          go_wp2
          go_quiet (fail)
          go_wp2
          go_ret
          exact ⟨ret_bool (Ru.full_f (by have := HX.out; omega)).symm, full_end _ _ _⟩

set_option maxHeartbeats 4000000 in
set_option maxRecDepth 1000000 in
theorem full_3 (n x0 x1 x2 b off cap : Nat) (w : World) (hn : 1 ≤ n) (hm : n ≤ 9223372036854775807) (hT : Utf8Tabs 0 1 w) (l0 : x0 < 256)
    (hs0 : w.cell? ⟨b, off, none⟩ = some (.int .u8 x0)) (hq1 : 1 < n → w.cell? ⟨b, off + 1, none⟩ = some (.int .u8 x1)) (hq2 : 2 < n → w.cell? ⟨b, off + 2, none⟩ = some (.int .u8 x2)) (hX : firstT x0 = 3) :
    Calls Tryd.prog 45 #[.slice (some ⟨b, off, none⟩) n cap] w fun e w' => e = .returned (.bool (Ru.full n x0 x1 x2)) ∧ Below w.heap.size w w' := by
  have hb : b < w.heap.size := World.block_lt_of_cell? w _ hs0
  have hz0 : ((n : Int) == 0) = false := Ru.eq_f (by omega)
  have hc0 := hT.1 x0 (by omega)
  obtain ⟨_, k1, k2, k3⟩ := Ru.firstT_some (Ru.need_of (x := x0) (by omega))
  rw [hX] at hc0 k1 k2 k3
  have k4 : ¬ x0 < 128 := fun h => by have := Ru.firstT_ascii h; omega
  have ha0 := (hT.2 0 (by omega)).1
  have ha1 := (hT.2 0 (by omega)).2
  simp only [accLo, accHi, Nat.reduceMul, Nat.reduceAdd, Nat.reduceEqDiff, if_true, if_false, Nat.reduceMod, Nat.reduceDiv] at ha0 ha1 k1 k2 k3
  have HX : Hid ((Ru.need (x0 : Int) = 3 ∧ Ru.lo2 (x0 : Int) = 128 ∧ Ru.hi2 (x0 : Int) = 191) ∧ ¬ x0 < 128) := ⟨⟨by omega, by omega, by omega⟩, k4⟩
  clear hX hT k1 k2 k3 k4
  by_cases hsz : 3 ≤ n
  · clear hq1 hq2
    go_enter Tryd.func45, Tryd.ntmps45
    go_wp2
    go_ret
    exact ⟨ret_bool (Ru.full_t (by have := HX.out; omega)).symm, Below.refl _ _⟩
  · rcases (show n = 1 ∨ n = 2 by omega) with rfl | rfl
    · clear hq1 hq2
      go_enter Tryd.func45, Tryd.ntmps45
      go_wp2
      go_quiet (fail)
      go_wp2
      go_ret
      exact ⟨ret_bool (Ru.full_f (by have := HX.out; omega)).symm, full_end _ _ _⟩
    · have hs1 := hq1 (by omega)
      clear hq1 hq2
      by_cases b1 : (x1 : Int) < 128
      · go_enter Tryd.func45, Tryd.ntmps45
        go_wp2
        go_quiet (fail)
        go_wp2
        go_ret
        exact ⟨ret_bool (Ru.full_t (by have := HX.out; omega)).symm, full_end _ _ _⟩
      · by_cases b2 : (191 : Int) < x1
        · go_enter Tryd.func45, Tryd.ntmps45
          go_wp2
          go_quiet (fail)
          go_wp2
          go_ret
          exact ⟨ret_bool (Ru.full_t (by have := HX.out; omega)).symm, full_end _ _ _⟩
        · go_enter Tryd.func45, Tryd.ntmps45
          go_wp2
          go_quiet (fail)
          go_wp2
          go_ret
          exact ⟨ret_bool (Ru.full_f (by have := HX.out; omega)).symm, full_end _ _ _⟩
end Go.Proofs.YtppgklmliklkkaaDoor

/-
  The walk of utf8.FullRune, a part.
-/
namespace Go.Proofs.YtppgklmliklkkaaDoor
open Go.RowKit Go.Lib

set_option maxHeartbeats 4000000 in
set_option maxRecDepth 1000000 in
theorem full_35 (n x0 x1 x2 b off cap : Nat) (w : World) (hn : 1 ≤ n) (hm : n ≤ 9223372036854775807) (hT : Utf8Tabs 0 1 w) (l0 : x0 < 256)
    (hs0 : w.cell? ⟨b, off, none⟩ = some (.int .u8 x0)) (hq1 : 1 < n → w.cell? ⟨b, off + 1, none⟩ = some (.int .u8 x1)) (hq2 : 2 < n → w.cell? ⟨b, off + 2, none⟩ = some (.int .u8 x2)) (hX : firstT x0 = 35) :
    Calls Tryd.prog 45 #[.slice (some ⟨b, off, none⟩) n cap] w fun e w' => e = .returned (.bool (Ru.full n x0 x1 x2)) ∧ Below w.heap.size w w' := by
  have hb : b < w.heap.size := World.block_lt_of_cell? w _ hs0
  have hz0 : ((n : Int) == 0) = false := Ru.eq_f (by omega)
  have hc0 := hT.1 x0 (by omega)
  obtain ⟨_, k1, k2, k3⟩ := Ru.firstT_some (Ru.need_of (x := x0) (by omega))
  rw [hX] at hc0 k1 k2 k3
  have k4 : ¬ x0 < 128 := fun h => by have := Ru.firstT_ascii h; omega
  have ha0 := (hT.2 2 (by omega)).1
  have ha1 := (hT.2 2 (by omega)).2
  simp only [accLo, accHi, Nat.reduceMul, Nat.reduceAdd, Nat.reduceEqDiff, if_true, if_false, Nat.reduceMod, Nat.reduceDiv] at ha0 ha1 k1 k2 k3
  have HX : Hid ((Ru.need (x0 : Int) = 3 ∧ Ru.lo2 (x0 : Int) = 128 ∧ Ru.hi2 (x0 : Int) = 159) ∧ ¬ x0 < 128) := ⟨⟨by omega, by omega, by omega⟩, k4⟩
  clear hX hT k1 k2 k3 k4
  by_cases hsz : 3 ≤ n
  · clear hq1 hq2
    go_enter Tryd.func45, Tryd.ntmps45
    go_wp2
    go_ret
    exact ⟨ret_bool (Ru.full_t (by have := HX.out; omega)).symm, Below.refl _ _⟩
  · rcases (show n = 1 ∨ n = 2 by omega) with rfl | rfl
    · clear hq1 hq2
      go_enter Tryd.func45, Tryd.ntmps45
      go_wp2
      go_quiet (fail)
      go_wp2
      go_ret
      exact ⟨ret_bool (Ru.full_f (by have := HX.out; omega)).symm, full_end _ _ _⟩
    · have hs1 := hq1 (by omega)
      clear hq1 hq2
      by_cases b1 : (x1 : Int) < 128
      · go_enter Tryd.func45, Tryd.ntmps45
        go_wp2
        go_quiet (fail)
        go_wp2
        go_ret
        exact ⟨ret_bool (Ru.full_t (by have := HX.out; omega)).symm, full_end _ _ _⟩
      · by_cases b2 : (159 : Int) < x1
        · go_enter Tryd.func45, Tryd.ntmps45
          go_wp2
          go_quiet (fail)
          go_wp2
          go_ret
          exact ⟨ret_bool (Ru.full_t (by have := HX.out; omega)).symm, full_end _ _ _⟩
        · go_enter Tryd.func45, Tryd.ntmps45
          go_wp2
          go_quiet (fail)
          go_wp2
          go_ret
          exact ⟨ret_bool (Ru.full_f (by have := HX.out; omega)).symm, full_end _ _ _⟩

set_option maxHeartbeats 4000000 in
set_option maxRecDepth 1000000 in
theorem full_52 (n x0 x1 x2 b off cap : Nat) (w : World) (hn : 1 ≤ n) (hm : n ≤ 9223372036854775807) (hT : Utf8Tabs 0 1 w) (l0 : x0 < 256)
    (hs0 : w.cell? ⟨b, off, none⟩ = some (.int .u8 x0)) (hq1 : 1 < n → w.cell? ⟨b, off + 1, none⟩ = some (.int .u8 x1)) (hq2 : 2 < n → w.cell? ⟨b, off + 2, none⟩ = some (.int .u8 x2)) (hX : firstT x0 = 52) :
    Calls Tryd.prog 45 #[.slice (some ⟨b, off, none⟩) n cap] w fun e w' => e = .returned (.bool (Ru.full n x0 x1 x2)) ∧ Below w.heap.size w w' := by
  have hb : b < w.heap.size := World.block_lt_of_cell? w _ hs0
  have hz0 : ((n : Int) == 0) = false := Ru.eq_f (by omega)
  have hc0 := hT.1 x0 (by omega)
  obtain ⟨_, k1, k2, k3⟩ := Ru.firstT_some (Ru.need_of (x := x0) (by omega))
  rw [hX] at hc0 k1 k2 k3
  have k4 : ¬ x0 < 128 := fun h => by have := Ru.firstT_ascii h; omega
  have ha0 := (hT.2 3 (by omega)).1
  have ha1 := (hT.2 3 (by omega)).2
  simp only [accLo, accHi, Nat.reduceMul, Nat.reduceAdd, Nat.reduceEqDiff, if_true, if_false, Nat.reduceMod, Nat.reduceDiv] at ha0 ha1 k1 k2 k3
  have HX : Hid ((Ru.need (x0 : Int) = 4 ∧ Ru.lo2 (x0 : Int) = 144 ∧ Ru.hi2 (x0 : Int) = 191) ∧ ¬ x0 < 128) := ⟨⟨by omega, by omega, by omega⟩, k4⟩
  clear hX hT k1 k2 k3 k4
  by_cases hsz : 4 ≤ n
  · clear hq1 hq2
    go_enter Tryd.func45, Tryd.ntmps45
    go_wp2
    go_ret
    exact ⟨ret_bool (Ru.full_t (by have := HX.out; omega)).symm, Below.refl _ _⟩
  · rcases (show n = 1 ∨ n = 2 ∨ n = 3 by omega) with rfl | rfl | rfl
    · clear hq1 hq2
      go_enter Tryd.func45, Tryd.ntmps45
      go_wp2
      go_quiet (fail)
      go_wp2
      go_ret
      exact ⟨ret_bool (Ru.full_f (by have := HX.out; omega)).symm, full_end _ _ _⟩
    · have hs1 := hq1 (by omega)
      clear hq1 hq2
      by_cases b1 : (x1 : Int) < 144
      · go_enter Tryd.func45, Tryd.ntmps45
        go_wp2
        go_quiet (fail)
        go_wp2
        go_ret
        exact ⟨ret_bool (Ru.full_t (by have := HX.out; omega)).symm, full_end _ _ _⟩
      · by_cases b2 : (191 : Int) < x1
        · go_enter Tryd.func45, Tryd.ntmps45
          go_wp2
          go_quiet (fail)
          go_wp2
          go_ret
          exact ⟨ret_bool (Ru.full_t (by have := HX.out; omega)).symm, full_end _ _ _⟩
        · go_enter Tryd.func45, Tryd.ntmps45
          go_wp2
          go_quiet (fail)
          go_wp2
          go_ret
          exact ⟨ret_bool (Ru.full_f (by have := HX.out; omega)).symm, full_end _ _ _⟩
    · have hs1 := hq1 (by omega)
      have hs2 := hq2 (by omega)
      clear hq1 hq2
      by_cases b1 : (x1 : Int) < 144
      · go_enter Tryd.func45, Tryd.ntmps45
        go_wp2
        go_quiet (fail)
        go_wp2
        go_ret
        exact ⟨ret_bool (Ru.full_t (by have := HX.out; omega)).symm, full_end _ _ _⟩
      · by_cases b2 : (191 : Int) < x1
        · go_enter Tryd.func45, Tryd.ntmps45
          go_wp2
          go_quiet (fail)
          go_wp2
          go_ret
          exact ⟨ret_bool (Ru.full_t (by have := HX.out; omega)).symm, full_end _ _ _⟩
        · by_cases c1 : (x2 : Int) < 128
          · go_enter Tryd.func45, Tryd.ntmps45
            go_wp2
            go_quiet (fail)
            go_wp2
            go_ret
            exact ⟨ret_bool (Ru.full_t (by have := HX.out; omega)).symm, full_end _ _ _⟩
          · by_cases c2 : (191 : Int) < x2
            · go_enter Tryd.func45, Tryd.ntmps45
              go_wp2
              go_quiet (fail)
              go_wp2
              go_ret
              exact ⟨ret_bool (Ru.full_t (by have := HX.out; omega)).symm, full_end _ _ _⟩
            · go_enter Tryd.func45, Tryd.ntmps45
              go_wp2
              go_quiet (fail)
              go_wp2
              go_ret
              exact ⟨ret_bool (Ru.full_f (by have := HX.out; omega)).symm, full_end _ _ _⟩
end Go.Proofs.YtppgklmliklkkaaDoor

/-
  The walk of utf8.FullRune, a part.
-/
namespace Go.Proofs.YtppgklmliklkkaaDoor
open Go.RowKit Go.Lib

set_option maxHeartbeats 4000000 in
set_option maxRecDepth 1000000 in
theorem full_4 (n x0 x1 x2 b off cap : Nat) (w : World) (hn : 1 ≤ n) (hm : n ≤ 9223372036854775807) (hT : Utf8Tabs 0 1 w) (l0 : x0 < 256)
    (hs0 : w.cell? ⟨b, off, none⟩ = some (.int .u8 x0)) (hq1 : 1 < n → w.cell? ⟨b, off + 1, none⟩ = some (.int .u8 x1)) (hq2 : 2 < n → w.cell? ⟨b, off + 2, none⟩ = some (.int .u8 x2)) (hX : firstT x0 = 4) :
    Calls Tryd.prog 45 #[.slice (some ⟨b, off, none⟩) n cap] w fun e w' => e = .returned (.bool (Ru.full n x0 x1 x2)) ∧ Below w.heap.size w w' := by
  have hb : b < w.heap.size := World.block_lt_of_cell? w _ hs0
  have hz0 : ((n : Int) == 0) = false := Ru.eq_f (by omega)
  have hc0 := hT.1 x0 (by omega)
  obtain ⟨_, k1, k2, k3⟩ := Ru.firstT_some (Ru.need_of (x := x0) (by omega))
  rw [hX] at hc0 k1 k2 k3
  have k4 : ¬ x0 < 128 := fun h => by have := Ru.firstT_ascii h; omega
  have ha0 := (hT.2 0 (by omega)).1
  have ha1 := (hT.2 0 (by omega)).2
  simp only [accLo, accHi, Nat.reduceMul, Nat.reduceAdd, Nat.reduceEqDiff, if_true, if_false, Nat.reduceMod, Nat.reduceDiv] at ha0 ha1 k1 k2 k3
  have HX : Hid ((Ru.need (x0 : Int) = 4 ∧ Ru.lo2 (x0 : Int) = 128 ∧ Ru.hi2 (x0 : Int) = 191) ∧ ¬ x0 < 128) := ⟨⟨by omega, by omega, by omega⟩, k4⟩
  clear hX hT k1 k2 k3 k4
  by_cases hsz : 4 ≤ n
  · clear hq1 hq2
    go_enter Tryd.func45, Tryd.ntmps45
    go_wp2
    go_ret
    exact ⟨ret_bool (Ru.full_t (by have := HX.out; omega)).symm, Below.refl _ _⟩
  · rcases (show n = 1 ∨ n = 2 ∨ n = 3 by omega) with rfl | rfl | rfl
    · clear hq1 hq2
      go_enter Tryd.func45, Tryd.ntmps45
      go_wp2
      go_quiet (fail)
      go_wp2
      go_ret
      exact ⟨ret_bool (Ru.full_f (by have := HX.out; omega)).symm, full_end _ _ _⟩
    · have hs1 := hq1 (by omega)
      clear hq1 hq2
      by_cases b1 : (x1 : Int) < 128
      · go_enter Tryd.func45, Tryd.ntmps45
        go_wp2
        go_quiet (fail)
        go_wp2
        go_ret
        exact ⟨ret_bool (Ru.full_t (by have := HX.out; omega)).symm, full_end _ _ _⟩
      · by_cases b2 : (191 : Int) < x1
        · go_enter Tryd.func45, Tryd.ntmps45
          go_wp2
          go_quiet (fail)
          go_wp2
          go_ret
          exact ⟨ret_bool (Ru.full_t (by have := HX.out; omega)).symm, full_end _ _ _⟩
        · go_enter Tryd.func45, Tryd.ntmps45
          go_wp2
          go_quiet (fail)
          go_wp2
          go_ret
          exact ⟨ret_bool (Ru.full_f (by have := HX.out; omega)).symm, full_end _ _ _⟩
    · have hs1 := hq1 (by omega)
      have hs2 := hq2 (by omega)
      clear hq1 hq2
      by_cases b1 : (x1 : Int) < 128
      · go_enter Tryd.func45, Tryd.ntmps45
        go_wp2
        go_quiet (fail)
        go_wp2
        go_ret
        exact ⟨ret_bool (Ru.full_t (by have := HX.out; omega)).symm, full_end _ _ _⟩
      · by_cases b2 : (191 : Int) < x1
        · go_enter Tryd.func45, Tryd.ntmps45
          go_wp2
          go_quiet (fail)
          go_wp2
          go_ret
          exact ⟨ret_bool (Ru.full_t (by have := HX.out; omega)).symm, full_end _ _ _⟩
        · by_cases c1 : (x2 : Int) < 128
          · go_enter Tryd.func45, Tryd.ntmps45
            go_wp2
            go_quiet (fail)
            go_wp2
            go_ret
            exact ⟨ret_bool (Ru.full_t (by have := HX.out; omega)).symm, full_end _ _ _⟩
          · by_cases c2 : (191 : Int) < x2
            · go_enter Tryd.func45, Tryd.ntmps45
              go_wp2
              go_quiet (fail)
              go_wp2
              go_ret
              exact ⟨ret_bool (Ru.full_t (by have := HX.out; omega)).symm, full_end _ _ _⟩
            · go_enter Tryd.func45, Tryd.ntmps45
              go_wp2
              go_quiet (fail)
              go_wp2
              go_ret
              exact ⟨ret_bool (Ru.full_f (by have := HX.out; omega)).symm, full_end _ _ _⟩

set_option maxHeartbeats 4000000 in
set_option maxRecDepth 1000000 in
theorem full_68 (n x0 x1 x2 b off cap : Nat) (w : World) (hn : 1 ≤ n) (hm : n ≤ 9223372036854775807) (hT : Utf8Tabs 0 1 w) (l0 : x0 < 256)
    (hs0 : w.cell? ⟨b, off, none⟩ = some (.int .u8 x0)) (hq1 : 1 < n → w.cell? ⟨b, off + 1, none⟩ = some (.int .u8 x1)) (hq2 : 2 < n → w.cell? ⟨b, off + 2, none⟩ = some (.int .u8 x2)) (hX : firstT x0 = 68) :
    Calls Tryd.prog 45 #[.slice (some ⟨b, off, none⟩) n cap] w fun e w' => e = .returned (.bool (Ru.full n x0 x1 x2)) ∧ Below w.heap.size w w' := by
  have hb : b < w.heap.size := World.block_lt_of_cell? w _ hs0
  have hz0 : ((n : Int) == 0) = false := Ru.eq_f (by omega)
  have hc0 := hT.1 x0 (by omega)
  obtain ⟨_, k1, k2, k3⟩ := Ru.firstT_some (Ru.need_of (x := x0) (by omega))
  rw [hX] at hc0 k1 k2 k3
  have k4 : ¬ x0 < 128 := fun h => by have := Ru.firstT_ascii h; omega
  have ha0 := (hT.2 4 (by omega)).1
  have ha1 := (hT.2 4 (by omega)).2
  simp only [accLo, accHi, Nat.reduceMul, Nat.reduceAdd, Nat.reduceEqDiff, if_true, if_false, Nat.reduceMod, Nat.reduceDiv] at ha0 ha1 k1 k2 k3
  have HX : Hid ((Ru.need (x0 : Int) = 4 ∧ Ru.lo2 (x0 : Int) = 128 ∧ Ru.hi2 (x0 : Int) = 143) ∧ ¬ x0 < 128) := ⟨⟨by omega, by omega, by omega⟩, k4⟩
  clear hX hT k1 k2 k3 k4
  by_cases hsz : 4 ≤ n
  · clear hq1 hq2
    go_enter Tryd.func45, Tryd.ntmps45
    go_wp2
    go_ret
    exact ⟨ret_bool (Ru.full_t (by have := HX.out; omega)).symm, Below.refl _ _⟩
  · rcases (show n = 1 ∨ n = 2 ∨ n = 3 by omega) with rfl | rfl | rfl
    · clear hq1 hq2
      go_enter Tryd.func45, Tryd.ntmps45
      go_wp2
      go_quiet (fail)
      go_wp2
      go_ret
      exact ⟨ret_bool (Ru.full_f (by have := HX.out; omega)).symm, full_end _ _ _⟩
    · have hs1 := hq1 (by omega)
      clear hq1 hq2
      by_cases b1 : (x1 : Int) < 128
      · go_enter Tryd.func45, Tryd.ntmps45
        go_wp2
        go_quiet (fail)
        go_wp2
        go_ret
        exact ⟨ret_bool (Ru.full_t (by have := HX.out; omega)).symm, full_end _ _ _⟩
      · by_cases b2 : (143 : Int) < x1
        · go_enter Tryd.func45, Tryd.ntmps45
          go_wp2
          go_quiet (fail)
          go_wp2
          go_ret
          exact ⟨ret_bool (Ru.full_t (by have := HX.out; omega)).symm, full_end _ _ _⟩
        · go_enter Tryd.func45, Tryd.ntmps45
          go_wp2
          go_quiet (fail)
          go_wp2
          go_ret
          exact ⟨ret_bool (Ru.full_f (by have := HX.out; omega)).symm, full_end _ _ _⟩
    · have hs1 := hq1 (by omega)
      have hs2 := hq2 (by omega)
      clear hq1 hq2
      by_cases b1 : (x1 : Int) < 128
      · go_enter Tryd.func45, Tryd.ntmps45
        go_wp2
        go_quiet (fail)
        go_wp2
        go_ret
        exact ⟨ret_bool (Ru.full_t (by have := HX.out; omega)).symm, full_end _ _ _⟩
      · by_cases b2 : (143 : Int) < x1
        · go_enter Tryd.func45, Tryd.ntmps45
          go_wp2
          go_quiet (fail)
          go_wp2
          go_ret
          exact ⟨ret_bool (Ru.full_t (by have := HX.out; omega)).symm, full_end _ _ _⟩
        · by_cases c1 : (x2 : Int) < 128
          · go_enter Tryd.func45, Tryd.ntmps45
            go_wp2
            go_quiet (fail)
            go_wp2
            go_ret
            exact ⟨ret_bool (Ru.full_t (by have := HX.out; omega)).symm, full_end _ _ _⟩
          · by_cases c2 : (191 : Int) < x2
            · go_enter Tryd.func45, Tryd.ntmps45
              go_wp2
              go_quiet (fail)
              go_wp2
              go_ret
              exact ⟨ret_bool (Ru.full_t (by have := HX.out; omega)).symm, full_end _ _ _⟩
            · go_enter Tryd.func45, Tryd.ntmps45
              go_wp2
              go_quiet (fail)
              go_wp2
              go_ret
              exact ⟨ret_bool (Ru.full_f (by have := HX.out; omega)).symm, full_end _ _ _⟩
end Go.Proofs.YtppgklmliklkkaaDoor

/-
  The walk of utf8.FullRune, a part.
-/
namespace Go.Proofs.YtppgklmliklkkaaDoor
open Go.RowKit Go.Lib

theorem full_any (n x0 x1 x2 b off cap : Nat) (w : World) (hn : 1 ≤ n) (hm : n ≤ 9223372036854775807) (hT : Utf8Tabs 0 1 w) (l0 : x0 < 256)
    (hs0 : w.cell? ⟨b, off, none⟩ = some (.int .u8 x0)) (hq1 : 1 < n → w.cell? ⟨b, off + 1, none⟩ = some (.int .u8 x1)) (hq2 : 2 < n → w.cell? ⟨b, off + 2, none⟩ = some (.int .u8 x2)) :
    Calls Tryd.prog 45 #[.slice (some ⟨b, off, none⟩) n cap] w fun e w' => e = .returned (.bool (Ru.full n x0 x1 x2)) ∧ Below w.heap.size w w' := by
  rcases Lib.firstT_cases x0 with hX | hX | hX | hX | hX | hX | hX | hX | hX
  · exact full_240 n x0 x1 x2 b off cap w hn hm hT l0 hs0 hq1 hq2 hX
  · exact full_241 n x0 x1 x2 b off cap w hn hm hT l0 hs0 hq1 hq2 hX
  · exact full_2 n x0 x1 x2 b off cap w hn hm hT l0 hs0 hq1 hq2 hX
  · exact full_19 n x0 x1 x2 b off cap w hn hm hT l0 hs0 hq1 hq2 hX
  · exact full_3 n x0 x1 x2 b off cap w hn hm hT l0 hs0 hq1 hq2 hX
  · exact full_35 n x0 x1 x2 b off cap w hn hm hT l0 hs0 hq1 hq2 hX
  · exact full_52 n x0 x1 x2 b off cap w hn hm hT l0 hs0 hq1 hq2 hX
  · exact full_4 n x0 x1 x2 b off cap w hn hm hT l0 hs0 hq1 hq2 hX
  · exact full_68 n x0 x1 x2 b off cap w hn hm hT l0 hs0 hq1 hq2 hX
end Go.Proofs.YtppgklmliklkkaaDoor

/-
  The walk of beginning: how many bytes the longest beginning has.
-/
namespace Go.Proofs.YtppgklmliklkkaaDoor
open Go.RowKit Go.Lib

/-- what beginning tells -/
def Begun (n x0 x1 x2 : Nat) (w : World) (e : Ending) (w' : World) : Prop :=
  ∃ k : Nat, e = .returned (.int .i64 k) ∧ 1 ≤ k ∧ k ≤ n ∧ (k = 1 ∨ Ru.full k x0 x1 x2 = false) ∧ (k = n ∨ Ru.full (k + 1 : Int) x0 x1 x2 = true) ∧ Below w.heap.size w w'
def BegAt (n x0 x1 x2 : Nat) (w : World) (v : Value) (wr : World) : Prop :=
  ∃ k : Nat, v = .int .i64 k ∧ 1 ≤ k ∧ k ≤ n ∧ Hid (k = 1 ∨ Ru.full k x0 x1 x2 = false) ∧ Below w.heap.size w wr

set_option maxHeartbeats 1000000 in
set_option maxRecDepth 100000 in
theorem beginning_any (n x0 x1 x2 b off cap : Nat) (w : World) (hn : 1 ≤ n) (hm : n ≤ 9223372036854775807) (hcap : n ≤ cap) (hT : UTab w.heap.size w) (l0 : x0 < 256)
    (hs0 : w.cell? ⟨b, off, none⟩ = some (.int .u8 x0)) (hq1 : 1 < n → w.cell? ⟨b, off + 1, none⟩ = some (.int .u8 x1)) (hq2 : 2 < n → w.cell? ⟨b, off + 2, none⟩ = some (.int .u8 x2)) :
    Calls Tryd.prog 33 #[.slice (some ⟨b, off, none⟩) n cap] w (Begun n x0 x1 x2 w) := by
  have hb : b < w.heap.size := World.block_lt_of_cell? w _ hs0
  have C : Hid (∀ (k : Nat) (wr : World), 1 ≤ k → k < n → Below w.heap.size w wr → Calls Tryd.prog 45 #[.slice (some ⟨b, off, none⟩) (k + 1) cap] wr fun e w' => e = .returned (.bool (Ru.full (k + 1 : Int) x0 x1 x2)) ∧ Below w.heap.size w w') := Lib.hid fun k wr h1 h2 hbel => by
    refine (full_any (k + 1) x0 x1 x2 b off cap wr (by omega) (by omega) (hT.below hbel).1 l0 ((hbel.cell (p := ⟨b, off, none⟩) hb).trans hs0) (fun h => (hbel.cell (p := ⟨b, off + 1, none⟩) hb).trans (hq1 (by omega))) (fun h => (hbel.cell (p := ⟨b, off + 2, none⟩) hb).trans (hq2 (by omega)))).mono ?_
    rintro e w' ⟨he, hb'⟩
    exact ⟨he, hbel.trans (hb'.mono hbel.size)⟩
  clear hT hs0 hq1 hq2 hb
  go_enter Tryd.func33, Tryd.ntmps33
  go_wp2_with fail
  go_loopw [3] (fun v wr => BegAt n x0 x1 x2 w v wr) (fun v _ => n - (RowKit.intOf v).toNat)
  case atStart => exact ⟨1, rfl, Nat.le_refl _, hn, Lib.hid (Or.inl rfl), Below.refl _ _⟩
  case round =>
    obtain ⟨k, rfl, k1, k2, hf, hbel⟩ := hrel
    have HB := Lib.hid hbel
    clear hbel
    by_cases hlt : k < n
    · have CK := C.out k
      have C1 : Hid (∀ wr : World, Below w.heap.size w wr → Calls Tryd.prog 45 #[.slice (some ⟨b, off, none⟩) (k + 1) cap] wr fun e w' => e = .returned (.bool (Ru.full (k + 1 : Int) x0 x1 x2)) ∧ Below w.heap.size w w') := Lib.hid fun wr h => CK wr k1 hlt h
      clear CK C
      cases hfu : Ru.full (k + 1 : Int) x0 x1 x2
      · rw [hfu] at C1
        have HF := Lib.hid hfu
        clear hfu
        go_wp2_with (go_at_call 45; ((with_reducible refine (C1.out _ HB.out).mono ?_); rintro e w' ⟨rfl, hb'⟩))
        go_roundw
        case rel => exact ⟨k + 1, by go_num, by omega, by omega, Lib.hid (Or.inr (by have := HF.out; simpa using this)), hb'⟩
        case measure => simp [RowKit.intOf]; omega
      · rw [hfu] at C1
        have HF := Lib.hid hfu
        clear hfu
        go_wp2_with (go_at_call 45; ((with_reducible refine (C1.out _ HB.out).mono ?_); rintro e w' ⟨rfl, hb'⟩))
        go_ret
        exact ⟨k, rfl, k1, k2, hf.out, Or.inr HF.out, hb'⟩
    · have hkn : k = n := by omega
      go_wp2_with fail
      go_ret
      exact ⟨k, rfl, k1, k2, hf.out, Or.inl hkn, HB.out⟩
end Go.Proofs.YtppgklmliklkkaaDoor
