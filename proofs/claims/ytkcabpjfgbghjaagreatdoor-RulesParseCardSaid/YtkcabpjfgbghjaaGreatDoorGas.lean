/-
  The library's contracts of unicode/utf8's DecodeRune and RuneCount over slices of bytes, laid at this translation: one application each.
-/
import Derived.Shelf.Spec.DecodeRune
import Derived.Shelf.Spec.RuneCount
import Derived.Shelf.Spec.NilArms
import Derived.Test.YtkcabpjfgbghjaaGreatDoorGab
import Derived.Test.YtkcabpjfgbghjaaGreatDoorGad
import Derived.Test.YtkcabpjfgbghjaaGreatDoorGar
namespace Go.Proofs
open Go.Shelf Go.RowKit
def Tryz.lays7n32_ren : Go.Shelf.Ren := ⟨fun | 32 => 151 | 49 => 190 | n => n, fun | 0 => 0 | 3 => 3 | 4 => 4 | 5 => 5 | 21 => 21 | 25 => 189 | 30 => 22 | 33 => 132 | 66 => 207 | 68 => 209 | 69 => 210 | n => n, fun | 2 => 1 | 3 => 2 | n => n⟩
theorem Tryz.lays7n32 : Go.Proofs.Lays7.n32 Tryz.prog Tryz.lays7n32_ren := {
 mixed := by kernel_rfl
 f32 := Tryz.func151.trans (congrArg some (by kernel_rfl))
 f49 := Tryz.func190.trans (congrArg some (by kernel_rfl))
 t0 := Tryz.underlying0
 a0 := Tryz.isAgg0
 z0 := Tryz.sizeOf0
 v0 := Tryz.zeroValue0
 i0 := by kernel_rfl
 t3 := Tryz.underlying3
 a3 := Tryz.isAgg3
 z3 := Tryz.sizeOf3
 v3 := Tryz.zeroValue3
 i3 := by kernel_rfl
 t4 := Tryz.underlying4
 a4 := Tryz.isAgg4
 z4 := Tryz.sizeOf4
 v4 := Tryz.zeroValue4
 i4 := by kernel_rfl
 t5 := Tryz.underlying5
 a5 := Tryz.isAgg5
 z5 := Tryz.sizeOf5
 v5 := Tryz.zeroValue5
 i5 := by kernel_rfl
 t21 := Tryz.underlying21
 a21 := Tryz.isAgg21
 z21 := Tryz.sizeOf21
 v21 := Tryz.zeroValue21
 i21 := by kernel_rfl
 t25 := Tryz.underlying189
 a25 := Tryz.isAgg189
 z25 := Tryz.sizeOf189
 v25 := Tryz.zeroValue189
 i25 := by kernel_rfl
 t30 := Tryz.underlying22
 a30 := Tryz.isAgg22
 z30 := Tryz.sizeOf22
 v30 := Tryz.zeroValue22
 i30 := by kernel_rfl
 t33 := Tryz.underlying132
 a33 := Tryz.isAgg132
 z33 := Tryz.sizeOf132
 v33 := Tryz.zeroValue132
 i33 := by kernel_rfl
 t66 := Tryz.underlying207
 a66 := Tryz.isAgg207
 z66 := Tryz.sizeOf207
 t68 := Tryz.underlying209
 a68 := Tryz.isAgg209
 z68 := Tryz.sizeOf209
 v68 := Tryz.zeroValue209
 i68 := by kernel_rfl
 t69 := Tryz.underlying210
 a69 := Tryz.isAgg210
 z69 := Tryz.sizeOf210
 v69 := Tryz.zeroValue210
 i69 := by kernel_rfl
 g2 := by kernel_rfl
 g3 := by kernel_rfl }
def Tryz.lays7n31_ren : Go.Shelf.Ren := ⟨fun | 31 => 83 | 48 => 150 | n => n, fun | 0 => 0 | 3 => 3 | 4 => 4 | 5 => 5 | 9 => 9 | 30 => 22 | n => n, fun | n => n⟩
theorem Tryz.lays7n31 : Go.Proofs.Lays7.n31 Tryz.prog Tryz.lays7n31_ren := {
 mixed := by kernel_rfl
 f31 := Tryz.func83.trans (congrArg some (by kernel_rfl))
 f48 := Tryz.func150.trans (congrArg some (by kernel_rfl))
 t0 := Tryz.underlying0
 a0 := Tryz.isAgg0
 z0 := Tryz.sizeOf0
 v0 := Tryz.zeroValue0
 i0 := by kernel_rfl
 t3 := Tryz.underlying3
 a3 := Tryz.isAgg3
 z3 := Tryz.sizeOf3
 v3 := Tryz.zeroValue3
 i3 := by kernel_rfl
 t4 := Tryz.underlying4
 a4 := Tryz.isAgg4
 z4 := Tryz.sizeOf4
 v4 := Tryz.zeroValue4
 i4 := by kernel_rfl
 t5 := Tryz.underlying5
 a5 := Tryz.isAgg5
 z5 := Tryz.sizeOf5
 v5 := Tryz.zeroValue5
 i5 := by kernel_rfl
 t9 := Tryz.underlying9
 a9 := Tryz.isAgg9
 z9 := Tryz.sizeOf9
 v9 := Tryz.zeroValue9
 i9 := by kernel_rfl
 t30 := Tryz.underlying22
 a30 := Tryz.isAgg22
 z30 := Tryz.sizeOf22
 v30 := Tryz.zeroValue22
 i30 := by kernel_rfl }
theorem Tryz.utf8_DecodeRune (s : ByteArray) (b off cap : Nat) (w : World) (hT : Lib.Utf8Tabs 1 2 w) (hp : ∀ j, j < s.size -> w.cell? ⟨b, off + j, none⟩ = some (.int .u8 (s.get! j).toNat)) :
 Calls Tryz.prog 151 #[.slice (some ⟨b, off, none⟩) s.size cap] w fun e w' => e = .returned (.tuple #[.int .i32 (Lib.decodeGo s).1, .int .i64 (Lib.decodeGo s).2]) /\ Below w.heap.size w w' := Any7.utf8_DecodeRune Tryz.lays7n32 s b off cap w hT hp
theorem Tryz.utf8_RuneCount (s : ByteArray) (b off cap : Nat) (w : World) (hcap : s.size <= cap) (hp : ∀ j, j < s.size -> w.cell? ⟨b, off + j, none⟩ = some (.int .u8 (s.get! j).toNat)) (hs : s.size < 9223372036854775807) :
 Calls Tryz.prog 83 #[.slice (some ⟨b, off, none⟩) s.size cap] w fun e w' => e = .returned (.int .i64 (Lib.runeCount s)) /\ (w' = w ∨ ∃ t pos, w' = w.iter t pos) := Any7.utf8_RuneCount Tryz.lays7n31 s b off cap w hcap hp hs
end Go.Proofs
set_option maxHeartbeats 16000000
set_option maxRecDepth 100000
namespace Go.Proofs.YtkcabpjfgbghjaaGreatDoor
open Go.RowKit
end Go.Proofs.YtkcabpjfgbghjaaGreatDoor
namespace Go.Proofs.YtkcabpjfgbghjaaGreatDoor
open Go.RowKit Go.Lib
namespace Ru
theorem need_of {x : Nat} (h : firstT x < 240) : need (x : Int) ≠ 0 := fun h0 => by
 by_cases h1 : x < 128
 ·rw [firstT_ascii h1] at h; omega
 ·rw [firstT_none h1 h0] at h; omega
theorem ascii_of {x : Nat} (h : firstT x = 240) : x < 128 := by
 by_cases h1 : x < 128
 ·exact h1
 ·by_cases h0 : need (x : Int) = 0
  ·rw [firstT_none h1 h0] at h; omega
  ·have := (firstT_some h0).1; omega
theorem none_of {x : Nat} (h : firstT x = 241) : need (x : Int) = 0 := by
 by_cases h0 : need (x : Int) = 0
 ·exact h0
 ·have := (firstT_some h0).1; omega
theorem full_t {m a b c : Int} (h : (a < 128 ∨ need a <= m) ∨ (1 < m /\ (b < lo2 a ∨ hi2 a < b)) ∨ (2 < m /\ (c < 128 ∨ 191 < c))) : full m a b c = true := decide_eq_true h
theorem full_f {m a b c : Int} (h : ¬ ((a < 128 ∨ need a <= m) ∨ (1 < m /\ (b < lo2 a ∨ hi2 a < b)) ∨ (2 < m /\ (c < 128 ∨ 191 < c)))) : full m a b c = false := decide_eq_false h
end Ru
theorem full_end (w : World) (o : Obj) (n : Nat) : Below w.heap.size w ((w.alloc o).drewN n) := below_drewN ((Below.refl _ _).alloc (Nat.le_refl _) _) _
end Go.Proofs.YtkcabpjfgbghjaaGreatDoor
namespace Go.Proofs.YtkcabpjfgbghjaaGreatDoor
open Go.RowKit Go.Lib
theorem full_240 (n x0 x1 x2 b off cap : Nat) (w : World) (hn : 1 <= n) (hm : n <= 9223372036854775807) (hT : Utf8Tabs 1 2 w) (l0 : x0 < 256)
 (hs0 : w.cell? ⟨b, off, none⟩ = some (.int .u8 x0)) (_hq1 : 1 < n -> w.cell? ⟨b, off + 1, none⟩ = some (.int .u8 x1)) (_hq2 : 2 < n -> w.cell? ⟨b, off + 2, none⟩ = some (.int .u8 x2)) (hX : firstT x0 = 240) :
 Calls Tryz.prog 191 #[.slice (some ⟨b, off, none⟩) n cap] w fun e w' => e = .returned (.bool (Ru.full n x0 x1 x2)) /\ Below w.heap.size w w' := by
 have hb : b < w.heap.size := World.block_lt_of_cell? w _ hs0
 have hz0 : ((n : Int) == 0) = false := Ru.eq_f (by omega)
 have hc0 := hT.1 x0 (by omega)
 have hF : Ru.full n x0 x1 x2 = true := Ru.full_t (Or.inl (Or.inl (by have := Ru.ascii_of hX; omega)))
 rw [hX] at hc0
 have HF := Lib.hid hF
 clear hF hX hT
 go_enter Tryz.func191, Tryz.ntmps191
 go_wp2
 go_ret
 exact ⟨ret_bool HF.out.symm, Below.refl _ _⟩
theorem full_241 (n x0 x1 x2 b off cap : Nat) (w : World) (hn : 1 <= n) (hm : n <= 9223372036854775807) (hT : Utf8Tabs 1 2 w) (l0 : x0 < 256)
 (hs0 : w.cell? ⟨b, off, none⟩ = some (.int .u8 x0)) (_hq1 : 1 < n -> w.cell? ⟨b, off + 1, none⟩ = some (.int .u8 x1)) (_hq2 : 2 < n -> w.cell? ⟨b, off + 2, none⟩ = some (.int .u8 x2)) (hX : firstT x0 = 241) :
 Calls Tryz.prog 191 #[.slice (some ⟨b, off, none⟩) n cap] w fun e w' => e = .returned (.bool (Ru.full n x0 x1 x2)) /\ Below w.heap.size w w' := by
 have hb : b < w.heap.size := World.block_lt_of_cell? w _ hs0
 have hz0 : ((n : Int) == 0) = false := Ru.eq_f (by omega)
 have hc0 := hT.1 x0 (by omega)
 have hF : Ru.full n x0 x1 x2 = true := Ru.full_t (Or.inl (Or.inr (by have := Ru.none_of hX; omega)))
 rw [hX] at hc0
 have HF := Lib.hid hF
 clear hF hX hT
 go_enter Tryz.func191, Tryz.ntmps191
 go_wp2
 go_ret
 exact ⟨ret_bool HF.out.symm, Below.refl _ _⟩
theorem full_2 (n x0 x1 x2 b off cap : Nat) (w : World) (hn : 1 <= n) (hm : n <= 9223372036854775807) (hT : Utf8Tabs 1 2 w) (l0 : x0 < 256)
 (hs0 : w.cell? ⟨b, off, none⟩ = some (.int .u8 x0)) (hq1 : 1 < n -> w.cell? ⟨b, off + 1, none⟩ = some (.int .u8 x1)) (hq2 : 2 < n -> w.cell? ⟨b, off + 2, none⟩ = some (.int .u8 x2)) (hX : firstT x0 = 2) :
 Calls Tryz.prog 191 #[.slice (some ⟨b, off, none⟩) n cap] w fun e w' => e = .returned (.bool (Ru.full n x0 x1 x2)) /\ Below w.heap.size w w' := by
 have hb : b < w.heap.size := World.block_lt_of_cell? w _ hs0
 have hz0 : ((n : Int) == 0) = false := Ru.eq_f (by omega)
 have hc0 := hT.1 x0 (by omega)
 obtain ⟨_, k1, k2, k3⟩ := Ru.firstT_some (Ru.need_of (x := x0) (by omega))
 rw [hX] at hc0 k1 k2 k3
 have k4 : ¬ x0 < 128 := fun h => by have := Ru.firstT_ascii h; omega
 have ha0 := (hT.2 0 (by omega)).1
 have ha1 := (hT.2 0 (by omega)).2
 simp only [accLo, accHi, Nat.reduceMul, Nat.reduceAdd, Nat.reduceEqDiff, if_true, if_false, Nat.reduceMod, Nat.reduceDiv] at ha0 ha1 k1 k2 k3
 have HX : Hid ((Ru.need (x0 : Int) = 2 /\ Ru.lo2 (x0 : Int) = 128 /\ Ru.hi2 (x0 : Int) = 191) /\ ¬ x0 < 128) := ⟨⟨by omega, by omega, by omega⟩, k4⟩
 clear hX hT k1 k2 k3 k4
 by_cases hsz : 2 <= n
 ·clear hq1 hq2
  go_enter Tryz.func191, Tryz.ntmps191
  go_wp2
  go_ret
  exact ⟨ret_bool (Ru.full_t (by have := HX.out; omega)).symm, Below.refl _ _⟩
 ·rcases (show n = 1 by omega) with rfl
  clear hq1 hq2
  go_enter Tryz.func191, Tryz.ntmps191
  go_wp2
  go_quiet (fail)
  go_wp2
  go_ret
  exact ⟨ret_bool (Ru.full_f (by have := HX.out; omega)).symm, full_end _ _ _⟩
theorem full_19 (n x0 x1 x2 b off cap : Nat) (w : World) (hn : 1 <= n) (hm : n <= 9223372036854775807) (hT : Utf8Tabs 1 2 w) (l0 : x0 < 256)
 (hs0 : w.cell? ⟨b, off, none⟩ = some (.int .u8 x0)) (hq1 : 1 < n -> w.cell? ⟨b, off + 1, none⟩ = some (.int .u8 x1)) (hq2 : 2 < n -> w.cell? ⟨b, off + 2, none⟩ = some (.int .u8 x2)) (hX : firstT x0 = 19) :
 Calls Tryz.prog 191 #[.slice (some ⟨b, off, none⟩) n cap] w fun e w' => e = .returned (.bool (Ru.full n x0 x1 x2)) /\ Below w.heap.size w w' := by
 have hb : b < w.heap.size := World.block_lt_of_cell? w _ hs0
 have hz0 : ((n : Int) == 0) = false := Ru.eq_f (by omega)
 have hc0 := hT.1 x0 (by omega)
 obtain ⟨_, k1, k2, k3⟩ := Ru.firstT_some (Ru.need_of (x := x0) (by omega))
 rw [hX] at hc0 k1 k2 k3
 have k4 : ¬ x0 < 128 := fun h => by have := Ru.firstT_ascii h; omega
 have ha0 := (hT.2 1 (by omega)).1
 have ha1 := (hT.2 1 (by omega)).2
 simp only [accLo, accHi, Nat.reduceMul, Nat.reduceAdd, Nat.reduceEqDiff, if_true, if_false, Nat.reduceMod, Nat.reduceDiv] at ha0 ha1 k1 k2 k3
 have HX : Hid ((Ru.need (x0 : Int) = 3 /\ Ru.lo2 (x0 : Int) = 160 /\ Ru.hi2 (x0 : Int) = 191) /\ ¬ x0 < 128) := ⟨⟨by omega, by omega, by omega⟩, k4⟩
 clear hX hT k1 k2 k3 k4
 by_cases hsz : 3 <= n
 ·clear hq1 hq2
  go_enter Tryz.func191, Tryz.ntmps191
  go_wp2
  go_ret
  exact ⟨ret_bool (Ru.full_t (by have := HX.out; omega)).symm, Below.refl _ _⟩
 ·rcases (show n = 1 ∨ n = 2 by omega) with rfl | rfl
  ·clear hq1 hq2
   go_enter Tryz.func191, Tryz.ntmps191
   go_wp2
   go_quiet (fail)
   go_wp2
   go_ret
   exact ⟨ret_bool (Ru.full_f (by have := HX.out; omega)).symm, full_end _ _ _⟩
  ·have hs1 := hq1 (by omega)
   clear hq1 hq2
   by_cases b1 : (x1 : Int) < 160
   ·go_enter Tryz.func191, Tryz.ntmps191
    go_wp2
    go_quiet (fail)
    go_wp2
    go_ret
    exact ⟨ret_bool (Ru.full_t (by have := HX.out; omega)).symm, full_end _ _ _⟩
   ·by_cases b2 : (191 : Int) < x1
    ·go_enter Tryz.func191, Tryz.ntmps191
     go_wp2
     go_quiet (fail)
     go_wp2
     go_ret
     exact ⟨ret_bool (Ru.full_t (by have := HX.out; omega)).symm, full_end _ _ _⟩
    ·go_enter Tryz.func191, Tryz.ntmps191
     go_wp2
     go_quiet (fail)
     go_wp2
     go_ret
     exact ⟨ret_bool (Ru.full_f (by have := HX.out; omega)).symm, full_end _ _ _⟩
theorem full_3 (n x0 x1 x2 b off cap : Nat) (w : World) (hn : 1 <= n) (hm : n <= 9223372036854775807) (hT : Utf8Tabs 1 2 w) (l0 : x0 < 256)
 (hs0 : w.cell? ⟨b, off, none⟩ = some (.int .u8 x0)) (hq1 : 1 < n -> w.cell? ⟨b, off + 1, none⟩ = some (.int .u8 x1)) (hq2 : 2 < n -> w.cell? ⟨b, off + 2, none⟩ = some (.int .u8 x2)) (hX : firstT x0 = 3) :
 Calls Tryz.prog 191 #[.slice (some ⟨b, off, none⟩) n cap] w fun e w' => e = .returned (.bool (Ru.full n x0 x1 x2)) /\ Below w.heap.size w w' := by
 have hb : b < w.heap.size := World.block_lt_of_cell? w _ hs0
 have hz0 : ((n : Int) == 0) = false := Ru.eq_f (by omega)
 have hc0 := hT.1 x0 (by omega)
 obtain ⟨_, k1, k2, k3⟩ := Ru.firstT_some (Ru.need_of (x := x0) (by omega))
 rw [hX] at hc0 k1 k2 k3
 have k4 : ¬ x0 < 128 := fun h => by have := Ru.firstT_ascii h; omega
 have ha0 := (hT.2 0 (by omega)).1
 have ha1 := (hT.2 0 (by omega)).2
 simp only [accLo, accHi, Nat.reduceMul, Nat.reduceAdd, Nat.reduceEqDiff, if_true, if_false, Nat.reduceMod, Nat.reduceDiv] at ha0 ha1 k1 k2 k3
 have HX : Hid ((Ru.need (x0 : Int) = 3 /\ Ru.lo2 (x0 : Int) = 128 /\ Ru.hi2 (x0 : Int) = 191) /\ ¬ x0 < 128) := ⟨⟨by omega, by omega, by omega⟩, k4⟩
 clear hX hT k1 k2 k3 k4
 by_cases hsz : 3 <= n
 ·clear hq1 hq2
  go_enter Tryz.func191, Tryz.ntmps191
  go_wp2
  go_ret
  exact ⟨ret_bool (Ru.full_t (by have := HX.out; omega)).symm, Below.refl _ _⟩
 ·rcases (show n = 1 ∨ n = 2 by omega) with rfl | rfl
  ·clear hq1 hq2
   go_enter Tryz.func191, Tryz.ntmps191
   go_wp2
   go_quiet (fail)
   go_wp2
   go_ret
   exact ⟨ret_bool (Ru.full_f (by have := HX.out; omega)).symm, full_end _ _ _⟩
  ·have hs1 := hq1 (by omega)
   clear hq1 hq2
   by_cases b1 : (x1 : Int) < 128
   ·go_enter Tryz.func191, Tryz.ntmps191
    go_wp2
    go_quiet (fail)
    go_wp2
    go_ret
    exact ⟨ret_bool (Ru.full_t (by have := HX.out; omega)).symm, full_end _ _ _⟩
   ·by_cases b2 : (191 : Int) < x1
    ·go_enter Tryz.func191, Tryz.ntmps191
     go_wp2
     go_quiet (fail)
     go_wp2
     go_ret
     exact ⟨ret_bool (Ru.full_t (by have := HX.out; omega)).symm, full_end _ _ _⟩
    ·go_enter Tryz.func191, Tryz.ntmps191
     go_wp2
     go_quiet (fail)
     go_wp2
     go_ret
     exact ⟨ret_bool (Ru.full_f (by have := HX.out; omega)).symm, full_end _ _ _⟩
end Go.Proofs.YtkcabpjfgbghjaaGreatDoor
namespace Go.Proofs.YtkcabpjfgbghjaaGreatDoor
open Go.RowKit Go.Lib
theorem full_35 (n x0 x1 x2 b off cap : Nat) (w : World) (hn : 1 <= n) (hm : n <= 9223372036854775807) (hT : Utf8Tabs 1 2 w) (l0 : x0 < 256)
 (hs0 : w.cell? ⟨b, off, none⟩ = some (.int .u8 x0)) (hq1 : 1 < n -> w.cell? ⟨b, off + 1, none⟩ = some (.int .u8 x1)) (hq2 : 2 < n -> w.cell? ⟨b, off + 2, none⟩ = some (.int .u8 x2)) (hX : firstT x0 = 35) :
 Calls Tryz.prog 191 #[.slice (some ⟨b, off, none⟩) n cap] w fun e w' => e = .returned (.bool (Ru.full n x0 x1 x2)) /\ Below w.heap.size w w' := by
 have hb : b < w.heap.size := World.block_lt_of_cell? w _ hs0
 have hz0 : ((n : Int) == 0) = false := Ru.eq_f (by omega)
 have hc0 := hT.1 x0 (by omega)
 obtain ⟨_, k1, k2, k3⟩ := Ru.firstT_some (Ru.need_of (x := x0) (by omega))
 rw [hX] at hc0 k1 k2 k3
 have k4 : ¬ x0 < 128 := fun h => by have := Ru.firstT_ascii h; omega
 have ha0 := (hT.2 2 (by omega)).1
 have ha1 := (hT.2 2 (by omega)).2
 simp only [accLo, accHi, Nat.reduceMul, Nat.reduceAdd, Nat.reduceEqDiff, if_true, if_false, Nat.reduceMod, Nat.reduceDiv] at ha0 ha1 k1 k2 k3
 have HX : Hid ((Ru.need (x0 : Int) = 3 /\ Ru.lo2 (x0 : Int) = 128 /\ Ru.hi2 (x0 : Int) = 159) /\ ¬ x0 < 128) := ⟨⟨by omega, by omega, by omega⟩, k4⟩
 clear hX hT k1 k2 k3 k4
 by_cases hsz : 3 <= n
 ·clear hq1 hq2
  go_enter Tryz.func191, Tryz.ntmps191
  go_wp2
  go_ret
  exact ⟨ret_bool (Ru.full_t (by have := HX.out; omega)).symm, Below.refl _ _⟩
 ·rcases (show n = 1 ∨ n = 2 by omega) with rfl | rfl
  ·clear hq1 hq2
   go_enter Tryz.func191, Tryz.ntmps191
   go_wp2
   go_quiet (fail)
   go_wp2
   go_ret
   exact ⟨ret_bool (Ru.full_f (by have := HX.out; omega)).symm, full_end _ _ _⟩
  ·have hs1 := hq1 (by omega)
   clear hq1 hq2
   by_cases b1 : (x1 : Int) < 128
   ·go_enter Tryz.func191, Tryz.ntmps191
    go_wp2
    go_quiet (fail)
    go_wp2
    go_ret
    exact ⟨ret_bool (Ru.full_t (by have := HX.out; omega)).symm, full_end _ _ _⟩
   ·by_cases b2 : (159 : Int) < x1
    ·go_enter Tryz.func191, Tryz.ntmps191
     go_wp2
     go_quiet (fail)
     go_wp2
     go_ret
     exact ⟨ret_bool (Ru.full_t (by have := HX.out; omega)).symm, full_end _ _ _⟩
    ·go_enter Tryz.func191, Tryz.ntmps191
     go_wp2
     go_quiet (fail)
     go_wp2
     go_ret
     exact ⟨ret_bool (Ru.full_f (by have := HX.out; omega)).symm, full_end _ _ _⟩
theorem full_52 (n x0 x1 x2 b off cap : Nat) (w : World) (hn : 1 <= n) (hm : n <= 9223372036854775807) (hT : Utf8Tabs 1 2 w) (l0 : x0 < 256)
 (hs0 : w.cell? ⟨b, off, none⟩ = some (.int .u8 x0)) (hq1 : 1 < n -> w.cell? ⟨b, off + 1, none⟩ = some (.int .u8 x1)) (hq2 : 2 < n -> w.cell? ⟨b, off + 2, none⟩ = some (.int .u8 x2)) (hX : firstT x0 = 52) :
 Calls Tryz.prog 191 #[.slice (some ⟨b, off, none⟩) n cap] w fun e w' => e = .returned (.bool (Ru.full n x0 x1 x2)) /\ Below w.heap.size w w' := by
 have hb : b < w.heap.size := World.block_lt_of_cell? w _ hs0
 have hz0 : ((n : Int) == 0) = false := Ru.eq_f (by omega)
 have hc0 := hT.1 x0 (by omega)
 obtain ⟨_, k1, k2, k3⟩ := Ru.firstT_some (Ru.need_of (x := x0) (by omega))
 rw [hX] at hc0 k1 k2 k3
 have k4 : ¬ x0 < 128 := fun h => by have := Ru.firstT_ascii h; omega
 have ha0 := (hT.2 3 (by omega)).1
 have ha1 := (hT.2 3 (by omega)).2
 simp only [accLo, accHi, Nat.reduceMul, Nat.reduceAdd, Nat.reduceEqDiff, if_true, if_false, Nat.reduceMod, Nat.reduceDiv] at ha0 ha1 k1 k2 k3
 have HX : Hid ((Ru.need (x0 : Int) = 4 /\ Ru.lo2 (x0 : Int) = 144 /\ Ru.hi2 (x0 : Int) = 191) /\ ¬ x0 < 128) := ⟨⟨by omega, by omega, by omega⟩, k4⟩
 clear hX hT k1 k2 k3 k4
 by_cases hsz : 4 <= n
 ·clear hq1 hq2
  go_enter Tryz.func191, Tryz.ntmps191
  go_wp2
  go_ret
  exact ⟨ret_bool (Ru.full_t (by have := HX.out; omega)).symm, Below.refl _ _⟩
 ·rcases (show n = 1 ∨ n = 2 ∨ n = 3 by omega) with rfl | rfl | rfl
  ·clear hq1 hq2
   go_enter Tryz.func191, Tryz.ntmps191
   go_wp2
   go_quiet (fail)
   go_wp2
   go_ret
   exact ⟨ret_bool (Ru.full_f (by have := HX.out; omega)).symm, full_end _ _ _⟩
  ·have hs1 := hq1 (by omega)
   clear hq1 hq2
   by_cases b1 : (x1 : Int) < 144
   ·go_enter Tryz.func191, Tryz.ntmps191
    go_wp2
    go_quiet (fail)
    go_wp2
    go_ret
    exact ⟨ret_bool (Ru.full_t (by have := HX.out; omega)).symm, full_end _ _ _⟩
   ·by_cases b2 : (191 : Int) < x1
    ·go_enter Tryz.func191, Tryz.ntmps191
     go_wp2
     go_quiet (fail)
     go_wp2
     go_ret
     exact ⟨ret_bool (Ru.full_t (by have := HX.out; omega)).symm, full_end _ _ _⟩
    ·go_enter Tryz.func191, Tryz.ntmps191
     go_wp2
     go_quiet (fail)
     go_wp2
     go_ret
     exact ⟨ret_bool (Ru.full_f (by have := HX.out; omega)).symm, full_end _ _ _⟩
  ·have hs1 := hq1 (by omega)
   have hs2 := hq2 (by omega)
   clear hq1 hq2
   by_cases b1 : (x1 : Int) < 144
   ·go_enter Tryz.func191, Tryz.ntmps191
    go_wp2
    go_quiet (fail)
    go_wp2
    go_ret
    exact ⟨ret_bool (Ru.full_t (by have := HX.out; omega)).symm, full_end _ _ _⟩
   ·by_cases b2 : (191 : Int) < x1
    ·go_enter Tryz.func191, Tryz.ntmps191
     go_wp2
     go_quiet (fail)
     go_wp2
     go_ret
     exact ⟨ret_bool (Ru.full_t (by have := HX.out; omega)).symm, full_end _ _ _⟩
    ·by_cases c1 : (x2 : Int) < 128
     ·go_enter Tryz.func191, Tryz.ntmps191
      go_wp2
      go_quiet (fail)
      go_wp2
      go_ret
      exact ⟨ret_bool (Ru.full_t (by have := HX.out; omega)).symm, full_end _ _ _⟩
     ·by_cases c2 : (191 : Int) < x2
      ·go_enter Tryz.func191, Tryz.ntmps191
       go_wp2
       go_quiet (fail)
       go_wp2
       go_ret
       exact ⟨ret_bool (Ru.full_t (by have := HX.out; omega)).symm, full_end _ _ _⟩
      ·go_enter Tryz.func191, Tryz.ntmps191
       go_wp2
       go_quiet (fail)
       go_wp2
       go_ret
       exact ⟨ret_bool (Ru.full_f (by have := HX.out; omega)).symm, full_end _ _ _⟩
end Go.Proofs.YtkcabpjfgbghjaaGreatDoor
