/-
  The walk of utf8.FullRune, a part.
-/
import Derived.Test.YtllmjggejbdpcaaGreatDoorGam
import Derived.Test.YtllmjggejbdpcaaGreatDoorGaa
import Derived.Test.YtllmjggejbdpcaaGreatDoorGad
import Derived.OneCell
import Derived.Test.YtllmjggejbdpcaaGreatDoorGac
import Derived.Deep.QuietTactic
import Derived.BigQuiet
import Derived.RegionTactic
import Derived.Deep.LoopGhost
set_option maxHeartbeats 16000000
set_option maxRecDepth 100000
namespace Go.Proofs.YtllmjggejbdpcaaGreatDoor
open Go.RowKit Go.Lib
theorem full_4 (n x0 x1 x2 b off cap : Nat) (w : World) (hn : 1 <= n) (hm : n <= 9223372036854775807) (hT : Utf8Tabs 1 2 w) (l0 : x0 < 256)
 (hs0 : w.cell? ⟨b, off, none⟩ = some (.int .u8 x0)) (hq1 : 1 < n -> w.cell? ⟨b, off + 1, none⟩ = some (.int .u8 x1)) (hq2 : 2 < n -> w.cell? ⟨b, off + 2, none⟩ = some (.int .u8 x2)) (hX : firstT x0 = 4) :
 Calls Tryz.prog 190 #[.slice (some ⟨b, off, none⟩) n cap] w fun e w' => e = .returned (.bool (Ru.full n x0 x1 x2)) /\ Below w.heap.size w w' := by
 have hb : b < w.heap.size := World.block_lt_of_cell? w _ hs0
 have hz0 : ((n : Int) == 0) = false := Ru.eq_f (by omega)
 have hc0 := hT.1 x0 (by omega)
 obtain ⟨_, k1, k2, k3⟩ := Ru.firstT_some (Ru.need_of (x := x0) (by omega))
 rw [hX] at hc0 k1 k2 k3
 have k4 : ¬ x0 < 128 := fun h => by have := Ru.firstT_ascii h; omega
 have ha0 := (hT.2 0 (by omega)).1
 have ha1 := (hT.2 0 (by omega)).2
 simp only [accLo, accHi, Nat.reduceMul, Nat.reduceAdd, Nat.reduceEqDiff, if_true, if_false, Nat.reduceMod, Nat.reduceDiv] at ha0 ha1 k1 k2 k3
 have HX : Hid ((Ru.need (x0 : Int) = 4 /\ Ru.lo2 (x0 : Int) = 128 /\ Ru.hi2 (x0 : Int) = 191) /\ ¬ x0 < 128) := ⟨⟨by omega, by omega, by omega⟩, k4⟩
 clear hX hT k1 k2 k3 k4
 by_cases hsz : 4 <= n
 ·clear hq1 hq2
  go_enter Tryz.func190, Tryz.ntmps190
  go_wp2
  go_ret
  exact ⟨ret_bool (Ru.full_t (by have := HX.out; omega)).symm, Below.refl _ _⟩
 ·rcases (show n = 1 ∨ n = 2 ∨ n = 3 by omega) with rfl | rfl | rfl
  ·clear hq1 hq2
   go_enter Tryz.func190, Tryz.ntmps190
   go_wp2
   go_quiet (fail)
   go_wp2
   go_ret
   exact ⟨ret_bool (Ru.full_f (by have := HX.out; omega)).symm, full_end _ _ _⟩
  ·have hs1 := hq1 (by omega)
   clear hq1 hq2
   by_cases b1 : (x1 : Int) < 128
   ·go_enter Tryz.func190, Tryz.ntmps190
    go_wp2
    go_quiet (fail)
    go_wp2
    go_ret
    exact ⟨ret_bool (Ru.full_t (by have := HX.out; omega)).symm, full_end _ _ _⟩
   ·by_cases b2 : (191 : Int) < x1
    ·go_enter Tryz.func190, Tryz.ntmps190
     go_wp2
     go_quiet (fail)
     go_wp2
     go_ret
     exact ⟨ret_bool (Ru.full_t (by have := HX.out; omega)).symm, full_end _ _ _⟩
    ·go_enter Tryz.func190, Tryz.ntmps190
     go_wp2
     go_quiet (fail)
     go_wp2
     go_ret
     exact ⟨ret_bool (Ru.full_f (by have := HX.out; omega)).symm, full_end _ _ _⟩
  ·have hs1 := hq1 (by omega)
   have hs2 := hq2 (by omega)
   clear hq1 hq2
   by_cases b1 : (x1 : Int) < 128
   ·go_enter Tryz.func190, Tryz.ntmps190
    go_wp2
    go_quiet (fail)
    go_wp2
    go_ret
    exact ⟨ret_bool (Ru.full_t (by have := HX.out; omega)).symm, full_end _ _ _⟩
   ·by_cases b2 : (191 : Int) < x1
    ·go_enter Tryz.func190, Tryz.ntmps190
     go_wp2
     go_quiet (fail)
     go_wp2
     go_ret
     exact ⟨ret_bool (Ru.full_t (by have := HX.out; omega)).symm, full_end _ _ _⟩
    ·by_cases c1 : (x2 : Int) < 128
     ·go_enter Tryz.func190, Tryz.ntmps190
      go_wp2
      go_quiet (fail)
      go_wp2
      go_ret
      exact ⟨ret_bool (Ru.full_t (by have := HX.out; omega)).symm, full_end _ _ _⟩
     ·by_cases c2 : (191 : Int) < x2
      ·go_enter Tryz.func190, Tryz.ntmps190
       go_wp2
       go_quiet (fail)
       go_wp2
       go_ret
       exact ⟨ret_bool (Ru.full_t (by have := HX.out; omega)).symm, full_end _ _ _⟩
      ·go_enter Tryz.func190, Tryz.ntmps190
       go_wp2
       go_quiet (fail)
       go_wp2
       go_ret
       exact ⟨ret_bool (Ru.full_f (by have := HX.out; omega)).symm, full_end _ _ _⟩
theorem full_68 (n x0 x1 x2 b off cap : Nat) (w : World) (hn : 1 <= n) (hm : n <= 9223372036854775807) (hT : Utf8Tabs 1 2 w) (l0 : x0 < 256)
 (hs0 : w.cell? ⟨b, off, none⟩ = some (.int .u8 x0)) (hq1 : 1 < n -> w.cell? ⟨b, off + 1, none⟩ = some (.int .u8 x1)) (hq2 : 2 < n -> w.cell? ⟨b, off + 2, none⟩ = some (.int .u8 x2)) (hX : firstT x0 = 68) :
 Calls Tryz.prog 190 #[.slice (some ⟨b, off, none⟩) n cap] w fun e w' => e = .returned (.bool (Ru.full n x0 x1 x2)) /\ Below w.heap.size w w' := by
 have hb : b < w.heap.size := World.block_lt_of_cell? w _ hs0
 have hz0 : ((n : Int) == 0) = false := Ru.eq_f (by omega)
 have hc0 := hT.1 x0 (by omega)
 obtain ⟨_, k1, k2, k3⟩ := Ru.firstT_some (Ru.need_of (x := x0) (by omega))
 rw [hX] at hc0 k1 k2 k3
 have k4 : ¬ x0 < 128 := fun h => by have := Ru.firstT_ascii h; omega
 have ha0 := (hT.2 4 (by omega)).1
 have ha1 := (hT.2 4 (by omega)).2
 simp only [accLo, accHi, Nat.reduceMul, Nat.reduceAdd, Nat.reduceEqDiff, if_true, if_false, Nat.reduceMod, Nat.reduceDiv] at ha0 ha1 k1 k2 k3
 have HX : Hid ((Ru.need (x0 : Int) = 4 /\ Ru.lo2 (x0 : Int) = 128 /\ Ru.hi2 (x0 : Int) = 143) /\ ¬ x0 < 128) := ⟨⟨by omega, by omega, by omega⟩, k4⟩
 clear hX hT k1 k2 k3 k4
 by_cases hsz : 4 <= n
 ·clear hq1 hq2
  go_enter Tryz.func190, Tryz.ntmps190
  go_wp2
  go_ret
  exact ⟨ret_bool (Ru.full_t (by have := HX.out; omega)).symm, Below.refl _ _⟩
 ·rcases (show n = 1 ∨ n = 2 ∨ n = 3 by omega) with rfl | rfl | rfl
  ·clear hq1 hq2
   go_enter Tryz.func190, Tryz.ntmps190
   go_wp2
   go_quiet (fail)
   go_wp2
   go_ret
   exact ⟨ret_bool (Ru.full_f (by have := HX.out; omega)).symm, full_end _ _ _⟩
  ·have hs1 := hq1 (by omega)
   clear hq1 hq2
   by_cases b1 : (x1 : Int) < 128
   ·go_enter Tryz.func190, Tryz.ntmps190
    go_wp2
    go_quiet (fail)
    go_wp2
    go_ret
    exact ⟨ret_bool (Ru.full_t (by have := HX.out; omega)).symm, full_end _ _ _⟩
   ·by_cases b2 : (143 : Int) < x1
    ·go_enter Tryz.func190, Tryz.ntmps190
     go_wp2
     go_quiet (fail)
     go_wp2
     go_ret
     exact ⟨ret_bool (Ru.full_t (by have := HX.out; omega)).symm, full_end _ _ _⟩
    ·go_enter Tryz.func190, Tryz.ntmps190
     go_wp2
     go_quiet (fail)
     go_wp2
     go_ret
     exact ⟨ret_bool (Ru.full_f (by have := HX.out; omega)).symm, full_end _ _ _⟩
  ·have hs1 := hq1 (by omega)
   have hs2 := hq2 (by omega)
   clear hq1 hq2
   by_cases b1 : (x1 : Int) < 128
   ·go_enter Tryz.func190, Tryz.ntmps190
    go_wp2
    go_quiet (fail)
    go_wp2
    go_ret
    exact ⟨ret_bool (Ru.full_t (by have := HX.out; omega)).symm, full_end _ _ _⟩
   ·by_cases b2 : (143 : Int) < x1
    ·go_enter Tryz.func190, Tryz.ntmps190
     go_wp2
     go_quiet (fail)
     go_wp2
     go_ret
     exact ⟨ret_bool (Ru.full_t (by have := HX.out; omega)).symm, full_end _ _ _⟩
    ·by_cases c1 : (x2 : Int) < 128
     ·go_enter Tryz.func190, Tryz.ntmps190
      go_wp2
      go_quiet (fail)
      go_wp2
      go_ret
      exact ⟨ret_bool (Ru.full_t (by have := HX.out; omega)).symm, full_end _ _ _⟩
     ·by_cases c2 : (191 : Int) < x2
      ·go_enter Tryz.func190, Tryz.ntmps190
       go_wp2
       go_quiet (fail)
       go_wp2
       go_ret
       exact ⟨ret_bool (Ru.full_t (by have := HX.out; omega)).symm, full_end _ _ _⟩
      ·go_enter Tryz.func190, Tryz.ntmps190
       go_wp2
       go_quiet (fail)
       go_wp2
       go_ret
       exact ⟨ret_bool (Ru.full_f (by have := HX.out; omega)).symm, full_end _ _ _⟩
end Go.Proofs.YtllmjggejbdpcaaGreatDoor
namespace Go.Proofs.YtllmjggejbdpcaaGreatDoor
open Go.RowKit Go.Lib
theorem full_any (n x0 x1 x2 b off cap : Nat) (w : World) (hn : 1 <= n) (hm : n <= 9223372036854775807) (hT : Utf8Tabs 1 2 w) (l0 : x0 < 256)
 (hs0 : w.cell? ⟨b, off, none⟩ = some (.int .u8 x0)) (hq1 : 1 < n -> w.cell? ⟨b, off + 1, none⟩ = some (.int .u8 x1)) (hq2 : 2 < n -> w.cell? ⟨b, off + 2, none⟩ = some (.int .u8 x2)) :
 Calls Tryz.prog 190 #[.slice (some ⟨b, off, none⟩) n cap] w fun e w' => e = .returned (.bool (Ru.full n x0 x1 x2)) /\ Below w.heap.size w w' := by
 rcases Lib.firstT_cases x0 with hX | hX | hX | hX | hX | hX | hX | hX | hX
 ·exact full_240 n x0 x1 x2 b off cap w hn hm hT l0 hs0 hq1 hq2 hX
 ·exact full_241 n x0 x1 x2 b off cap w hn hm hT l0 hs0 hq1 hq2 hX
 ·exact full_2 n x0 x1 x2 b off cap w hn hm hT l0 hs0 hq1 hq2 hX
 ·exact full_19 n x0 x1 x2 b off cap w hn hm hT l0 hs0 hq1 hq2 hX
 ·exact full_3 n x0 x1 x2 b off cap w hn hm hT l0 hs0 hq1 hq2 hX
 ·exact full_35 n x0 x1 x2 b off cap w hn hm hT l0 hs0 hq1 hq2 hX
 ·exact full_52 n x0 x1 x2 b off cap w hn hm hT l0 hs0 hq1 hq2 hX
 ·exact full_4 n x0 x1 x2 b off cap w hn hm hT l0 hs0 hq1 hq2 hX
 ·exact full_68 n x0 x1 x2 b off cap w hn hm hT l0 hs0 hq1 hq2 hX
end Go.Proofs.YtllmjggejbdpcaaGreatDoor
namespace Go.Proofs.YtllmjggejbdpcaaGreatDoor
open Go.RowKit Go.Lib
def Begun (n x0 x1 x2 : Nat) (w : World) (e : Ending) (w' : World) : Prop :=
 ∃ k : Nat, e = .returned (.int .i64 k) /\ 1 <= k /\ k <= n /\ (k = 1 ∨ Ru.full k x0 x1 x2 = false) /\ (k = n ∨ Ru.full (k + 1 : Int) x0 x1 x2 = true) /\ Below w.heap.size w w'
def BegAt (n x0 x1 x2 : Nat) (w : World) (v : Value) (wr : World) : Prop :=
 ∃ k : Nat, v = .int .i64 k /\ 1 <= k /\ k <= n /\ Hid (k = 1 ∨ Ru.full k x0 x1 x2 = false) /\ Below w.heap.size w wr
theorem beginning_any (n x0 x1 x2 b off cap : Nat) (w : World) (hn : 1 <= n) (hm : n <= 9223372036854775807) (hcap : n <= cap) (hT : UTab w.heap.size w) (l0 : x0 < 256)
 (hs0 : w.cell? ⟨b, off, none⟩ = some (.int .u8 x0)) (hq1 : 1 < n -> w.cell? ⟨b, off + 1, none⟩ = some (.int .u8 x1)) (hq2 : 2 < n -> w.cell? ⟨b, off + 2, none⟩ = some (.int .u8 x2)) :
 Calls Tryz.prog 151 #[.slice (some ⟨b, off, none⟩) n cap] w (Begun n x0 x1 x2 w) := by
 have hb : b < w.heap.size := World.block_lt_of_cell? w _ hs0
 have C : Hid (∀ (k : Nat) (wr : World), 1 <= k -> k < n -> Below w.heap.size w wr -> Calls Tryz.prog 190 #[.slice (some ⟨b, off, none⟩) (k + 1) cap] wr fun e w' => e = .returned (.bool (Ru.full (k + 1 : Int) x0 x1 x2)) /\ Below w.heap.size w w') := Lib.hid fun k wr h1 h2 hbel => by
  refine (full_any (k + 1) x0 x1 x2 b off cap wr (by omega) (by omega) (hT.below hbel).1 l0 ((hbel.cell (p := ⟨b, off, none⟩) hb).trans hs0) (fun h => (hbel.cell (p := ⟨b, off + 1, none⟩) hb).trans (hq1 (by omega))) (fun h => (hbel.cell (p := ⟨b, off + 2, none⟩) hb).trans (hq2 (by omega)))).mono ?_
  rintro e w' ⟨he, hb'⟩
  exact ⟨he, hbel.trans (hb'.mono hbel.size)⟩
 clear hT hs0 hq1 hq2 hb
 go_enter Tryz.func151, Tryz.ntmps151
 go_wp2_with fail
 go_loopw [3] (fun v wr => BegAt n x0 x1 x2 w v wr) (fun v _ => n - (RowKit.intOf v).toNat)
 case atStart => exact ⟨1, rfl, Nat.le_refl _, hn, Lib.hid (Or.inl rfl), Below.refl _ _⟩
 case round =>
  obtain ⟨k, rfl, k1, k2, hf, hbel⟩ := hrel
  have HB := Lib.hid hbel
  clear hbel
  by_cases hlt : k < n
  ·have CK := C.out k
   have C1 : Hid (∀ wr : World, Below w.heap.size w wr -> Calls Tryz.prog 190 #[.slice (some ⟨b, off, none⟩) (k + 1) cap] wr fun e w' => e = .returned (.bool (Ru.full (k + 1 : Int) x0 x1 x2)) /\ Below w.heap.size w w') := Lib.hid fun wr h => CK wr k1 hlt h
   clear CK C
   cases hfu : Ru.full (k + 1 : Int) x0 x1 x2
   ·rw [hfu] at C1
    have HF := Lib.hid hfu
    clear hfu
    go_wp2_with (go_at_call 190; ((with_reducible refine (C1.out _ HB.out).mono ?_); rintro e w' ⟨rfl, hb'⟩))
    go_roundw
    case rel => exact ⟨k + 1, by go_num, by omega, by omega, Lib.hid (Or.inr (by have := HF.out; simpa using this)), hb'⟩
    case measure => simp [RowKit.intOf]; omega
   ·rw [hfu] at C1
    have HF := Lib.hid hfu
    clear hfu
    go_wp2_with (go_at_call 190; ((with_reducible refine (C1.out _ HB.out).mono ?_); rintro e w' ⟨rfl, hb'⟩))
    go_ret
    exact ⟨k, rfl, k1, k2, hf.out, Or.inr HF.out, hb'⟩
  ·have hkn : k = n := by omega
   go_wp2_with fail
   go_ret
   exact ⟨k, rfl, k1, k2, hf.out, Or.inl hkn, HB.out⟩
end Go.Proofs.YtllmjggejbdpcaaGreatDoor
namespace Go.Proofs.YtllmjggejbdpcaaGreatDoor
open Go.RowKit
namespace Ru
def arr (l : List Int) : ByteArray := ⟨(l.map fun x => UInt8.ofNat x.toNat).toArray⟩
theorem arr_size (l : List Int) : (arr l).size = l.length := by
 unfold arr
 rw [Lib.size_eq]
 simp
theorem arr_get {l : List Int} (hl : By l) (j : Nat) : (((arr l).get! j).toNat : Int) = g l j := by
 rw [<- Lib.getD_get!']
 unfold arr g
 rw [List.getD_eq_getElem?_getD, List.getD_eq_getElem?_getD]
 rcases Nat.lt_or_ge j l.length with h | h
 ·simp only [List.getElem?_map, List.getElem?_eq_getElem h, Option.map_some, Option.getD_some]
  have := hl l[j] (List.getElem_mem h)
  rw [UInt8.toNat_ofNat']
  omega
 ·simp [List.getElem?_eq_none h]
end Ru
theorem next_any (l : List Int) (hl : Ru.By l) (h0 : l ≠ []) (b off cap : Nat) (w : World) (hm : l.length <= 9223372036854775807) (hcap : l.length <= cap) (hT : UTab w.heap.size w) (hp : ∀ j, j < l.length -> w.cell? ⟨b, off + j, none⟩ = some (.int .u8 (Ru.g l j))) :
 Calls Tryz.prog 83 #[.slice (some ⟨b, off, none⟩) l.length cap] w fun e w' => e = .returned (.tuple #[.int .i32 (Ru.chL l), .int .i64 (Ru.wdL l : Nat)]) /\ Below w.heap.size w w' := by
 have hlen := Ru.len_pos h0
 have hsz := Ru.arr_size l
 have y0 := hl.at_ 0
 obtain ⟨x0, hx0⟩ : ∃ x : Nat, (x : Int) = Ru.g l 0 := ⟨_, Ru.arr_get hl 0⟩
 obtain ⟨x1, hx1⟩ : ∃ x : Nat, (x : Int) = Ru.g l 1 := ⟨_, Ru.arr_get hl 1⟩
 obtain ⟨x2, hx2⟩ : ∃ x : Nat, (x : Int) = Ru.g l 2 := ⟨_, Ru.arr_get hl 2⟩
 obtain ⟨x3, hx3⟩ : ∃ x : Nat, (x : Int) = Ru.g l 3 := ⟨_, Ru.arr_get hl 3⟩
 have z0 := hl.at_ 0
 have z1 := hl.at_ 1
 have z2 := hl.at_ 2
 have z3 := hl.at_ 3
 have hdec : Lib.decodeGo (Ru.arr l) = Lib.decodeN l.length x0 x1 x2 x3 := by
  have a0 := Ru.arr_get hl 0
  have a1 := Ru.arr_get hl 1
  have a2 := Ru.arr_get hl 2
  have a3 := Ru.arr_get hl 3
  have : ¬ (Ru.arr l).size = 0 := by omega
  simp only [Lib.decodeGo, this, if_false]
  rw [Lib.decode_at, Nat.sub_zero, Nat.zero_add, Nat.zero_add, Nat.zero_add, hsz]
  congr 1 <;> omega
 have C := Tryz.utf8_DecodeRune (Ru.arr l) b off cap w hT.1 (fun j hj => by rw [hp j (by omega), <- Ru.arr_get hl j])
 rw [hdec, hsz] at C
 have hd0 := hp 0 (by omega)
 rw [Nat.add_zero, <- hx0] at hd0
 have hd1 : 1 < l.length -> w.cell? ⟨b, off + 1, none⟩ = some (.int .u8 x1) := fun h => by rw [hp 1 h, hx1]
 have hd2 : 2 < l.length -> w.cell? ⟨b, off + 2, none⟩ = some (.int .u8 x2) := fun h => by rw [hp 2 h, hx2]
 have hb : b < w.heap.size := World.block_lt_of_cell? w _ hd0
 have CB : Hid (∀ wr : World, Below w.heap.size w wr -> Calls Tryz.prog 151 #[.slice (some ⟨b, off, none⟩) l.length cap] wr (Begun l.length x0 x1 x2 wr)) := Lib.hid fun wr hbel =>
  beginning_any l.length x0 x1 x2 b off cap wr hlen hm hcap ⟨(hT.below hbel).1, by have := hbel.size; have := hT.2; omega⟩ (by omega) ((hbel.cell (p := ⟨b, off, none⟩) hb).trans hd0) (fun h => (hbel.cell (p := ⟨b, off + 1, none⟩) hb).trans (hd1 h)) (fun h => (hbel.cell (p := ⟨b, off + 2, none⟩) hb).trans (hd2 h))
 rw [Ru.wdL_int h0]
 unfold Ru.chL
 have E1 := Ru.decode_is l.length x0 x1 x2 x3 hlen (by omega) (by omega) (by omega) (by omega)
 have E2 : ∀ k : Nat, ((Lib.decodeN l.length x0 x1 x2 x3).1 = 65533 /\ (Lib.decodeN l.length x0 x1 x2 x3).2 = 1) -> 1 <= k -> k <= l.length -> (k = 1 ∨ Ru.full k x0 x1 x2 = false) -> (k = l.length ∨ Ru.full (k + 1 : Int) x0 x1 x2 = true) ->
  (65533 : Int) = Ru.ch l.length (Ru.g l 0) (Ru.g l 1) (Ru.g l 2) (Ru.g l 3) /\ (k : Int) = Ru.wd l.length (Ru.g l 0) (Ru.g l 1) (Ru.g l 2) (Ru.g l 3) := fun k h1 h2 h3 h4 h5 => by
  rw [<- hx0, <- hx1, <- hx2, <- hx3]
  exact Ru.beginning_is l.length k x0 x1 x2 x3 hlen (by omega) (by omega) (by omega) (by omega) h1 h2 h3 h4 h5
 rw [hx0, hx1, hx2, hx3] at E1
 generalize Ru.ch l.length (Ru.g l 0) (Ru.g l 1) (Ru.g l 2) (Ru.g l 3) = c at *
 generalize Ru.wd l.length (Ru.g l 0) (Ru.g l 1) (Ru.g l 2) (Ru.g l 3) = d at *
 generalize Lib.decodeN l.length x0 x1 x2 x3 = D at *
 obtain ⟨D1, D2⟩ := D
 simp only at C E1 E2
 clear hdec hp z0 z1 z2 z3 y0 hsz hd0 hd1 hd2
 by_cases h : D1 = 65533 /\ D2 = 1
 ·obtain ⟨rfl, rfl⟩ := h
  have E := Lib.hid (fun k => E2 k ⟨rfl, rfl⟩)
  have C' := Lib.hid C
  clear E1 E2 C hx0 hx1 hx2 hx3
  go_enter Tryz.func83, Tryz.ntmps83
  go_wp2_with (first | (go_at_call 150; ((with_reducible refine (C'.out).mono ?_); rintro e w1 ⟨rfl, hb1⟩)) | (go_at_call 151; ((with_reducible refine (CB.out _ hb1).mono ?_); rintro e w2 ⟨k, rfl, k1, k2, k3, k4, hb2⟩)))
  go_ret2
  have hE := E.out k k1 k2 k3 k4
  exact ⟨ret_two hE.1 hE.2, hb1.trans (hb2.mono hb1.size)⟩
 ·have hE := E1 h
  obtain ⟨rfl, rfl⟩ := hE
  have C' := Lib.hid C
  clear E1 E2 C hx0 hx1 hx2 hx3 CB
  by_cases h1 : D1 = 65533
  ·subst h1
   have h2 : ¬ D2 = 1 := fun e => h ⟨rfl, e⟩
   have e2 : ((D2 : Int) == 1) = false := Ru.eq_f (by omega)
   clear h h2
   go_enter Tryz.func83, Tryz.ntmps83
   go_wp2_with (go_at_call 150; ((with_reducible refine (C'.out).mono ?_); rintro e w1 ⟨rfl, hb1⟩))
   go_ret2
   exact ⟨rfl, hb1⟩
  ·have e1 : ((D1 : Int) == 65533) = false := Ru.eq_f (by omega)
   clear h h1
   go_enter Tryz.func83, Tryz.ntmps83
   go_wp2_with (go_at_call 150; ((with_reducible refine (C'.out).mono ?_); rintro e w1 ⟨rfl, hb1⟩))
   go_ret2
   exact ⟨rfl, hb1⟩
theorem Tryz.info21 : (Tryz.prog.info? 21).map (fun i => (i.zero, i.size, i.bytes)) = some (some (.int .i32 0), 1, 4) := by kernel_rfl
def Counted (n : Nat) (w : World) (e : Ending) (w' : World) : Prop := ∃ c : Nat, e = .returned (.int .i64 c) /\ c <= n /\ Below w.heap.size w w'
theorem rcount_zero (A : Option Addr) (cap : Nat) (w : World) :
 Calls Tryz.prog 82 #[.slice A 0 cap] w (Counted 0 w) := by
 go_enter Tryz.func82, Tryz.ntmps82
 go_wp2_with fail
 go_loop [4] (fun n => n = .int .i64 0) (fun _ => 0)
 case atStart => rfl
 case round =>
  subst hrel
  go_wp2_with fail
  go_ret
  exact ⟨0, rfl, Nat.le_refl _, Below.refl _ _⟩
theorem below_iter (w : World) (t : ByteArray) (pos : Nat) : Below w.heap.size w (w.iter t pos) := by
 unfold World.iter
 exact (Below.refl _ _).alloc (Nat.le_refl _) _
theorem rcount_any (l : List Int) (hl : Ru.By l) (A : Option Addr) (cap : Nat) (w : World) (hm : l.length <= 65536) (hcap : l.length <= cap) (hA : Bs w w.heap.size .u8 A l) :
 Calls Tryz.prog 82 #[.slice A l.length cap] w (Counted l.length w) := by
 by_cases h0 : l = []
 ·subst h0
  exact rcount_zero A cap w
 ·obtain ⟨b, off, rfl, _, hp⟩ := hA (Ru.len_pos h0)
  have hsz := Ru.arr_size l
  have C := Tryz.utf8_RuneCount (Ru.arr l) b off cap w (by omega) (fun j hj => by rw [hp j (by omega), <- Ru.arr_get hl j]) (by omega)
  rw [hsz] at C
  refine C.mono ?_
  rintro e w' ⟨he, hw⟩
  refine ⟨_, he, by have := Lib.runeCount_le (Ru.arr l); omega, ?_⟩
  rcases hw with rfl | ⟨t, pos, rfl⟩
  ·exact Below.refl _ _
  ·exact below_iter _ _ _
namespace Ru
inductive WayR (l : List Int) (k : Nat) (c : Int) (d t : Nat) : Prop
 | other (h : ((c : Int) == 13) = false) (ht : t = d)
 | last (h : ((c : Int) == 13) = true) (h2 : ¬ k + d < l.length) (ht : t = d)
 | lone (h : ((c : Int) == 13) = true) (h2 : k + d < l.length) (h3 : (g l (k + d) == 10) = false) (ht : t = d)
 | both (h : ((c : Int) == 13) = true) (h2 : k + d < l.length) (h3 : (g l (k + d) == 10) = true) (ht : t = d + 1)
theorem wayR (l : List Int) (k : Nat) (hk : k < l.length) : WayR l k (chL (l.drop k)) (wdL (l.drop k)) (st (l.drop k)) := by
 by_cases h : chL (l.drop k) = 13
 ·by_cases h2 : k + wdL (l.drop k) < l.length
  ·by_cases h3 : g l (k + wdL (l.drop k)) = 10
   ·exact .both (eq_t h) h2 (eq_t h3) (by unfold st; rw [g_drop, if_pos ⟨h, by rw [List.length_drop]; omega, h3⟩])
   ·exact .lone (eq_t h) h2 (eq_f h3) (by unfold st; rw [g_drop, if_neg (fun hh => h3 hh.2.2)])
  ·exact .last (eq_t h) h2 (by unfold st; rw [if_neg (fun hh => h2 (by have := hh.2.1; rw [List.length_drop] at this; omega))])
 ·exact .other (eq_f h) (by unfold st; rw [if_neg (fun hh => h hh.1)])
end Ru
def ReadAt (w : World) (l : List Int) (v3 v4 : Value) (wr : World) : Prop :=
 ∃ (k : Nat) (ds : List Int), k <= l.length /\ v4 = .int .i64 k /\ Hid (Ru.rd l = ds ++ Ru.rd (l.drop k)) /\ wr.ownsRow w.heap.size 21 1 v3 ds.length (nums .i32 ds) /\ Below w.heap.size w wr /\ ds.length <= k
theorem read_nil (A : Option Addr) (cap : Nat) (w : World) :
 Calls Tryz.prog 48 #[.slice A 0 cap] w (Made .i32 21 [] w) := by
 obtain ⟨i0, hi, hz0, hz1, hz2⟩ := info_parts Tryz.info21
 have CC := Lib.hid (rcount_zero A cap w)
 go_enter Tryz.func48, Tryz.ntmps48
 go_wp2_with (first | (go_at_call 82; ((with_reducible refine (CC.out).mono ?_); rintro e w0 ⟨c, rfl, hc, hb0⟩)) | (at_make; refine wpList_make_own _ rfl _ _ 83 rfl w.heap.size 21 i0 (.int .i32 0) 1 Tryz.underlying83 hi hz0 hz1 .i64 .i64 _ c rfl rfl rfl (by rw [hz2]; omega) (by unfold maxLen; omega) hb0.size ?_; intro w1 hown1 hgrow1))
 have hb1 : Below w.heap.size w w1 := hb0.grown hgrow1 hb0.size (by simp)
 have HB1 := Lib.hid hb1
 have HO1 := Lib.hid hown1
 clear hb1 hown1 hgrow1 hb0 CC
 go_wp2_with fail
 go_loopw [3, 4] (fun v3 v4 wr => v4 = .int .i64 0 /\ wr.ownsRow w.heap.size 21 1 v3 0 [] /\ Below w.heap.size w wr) (fun _ _ _ => 0)
 case atStart => exact ⟨rfl, HO1.out, HB1.out⟩
 case round =>
  obtain ⟨rfl, hown, hbel⟩ := hrel
  have HO := Lib.hid hown
  have HB := Lib.hid hbel
  clear hown hbel
  go_wp2_with fail
  go_ret
  exact ⟨_, rfl, HO.out, HB.out⟩
theorem read_cons (l : List Int) (hl : Ru.By l) (h0 : 0 < l.length) (b off cap : Nat) (w : World) (hm : l.length <= 65536) (hcap : l.length <= cap) (hT : UTab w.heap.size w) (hb : b < w.heap.size) (hp : ∀ j, j < l.length -> w.cell? ⟨b, off + j, none⟩ = some (.int .u8 (Ru.g l j))) :
 Calls Tryz.prog 48 #[.slice (some ⟨b, off, none⟩) l.length cap] w (Made .i32 21 (Ru.rd l) w) := by
 obtain ⟨i0, hi, hz0, hz1, hz2⟩ := info_parts Tryz.info21
 have CC := Lib.hid (rcount_any l hl (some ⟨b, off, none⟩) cap w hm hcap (fun _ => ⟨b, off, rfl, hb, hp⟩))
 have CP : Hid (∀ (c : Int) (w : World), Calls Tryz.prog 84 #[.int .i32 c] w fun e w' => e = .returned (.int .i32 (Ru.plain c)) /\ w = w') := Lib.hid plain_any
 have CX : Hid (∀ (k : Nat) (wr : World), k < l.length -> Below w.heap.size w wr -> Calls Tryz.prog 83 #[.slice (some ⟨b, off + k, none⟩) (l.length - k) (cap - k)] wr fun e w' => e = .returned (.tuple #[.int .i32 (Ru.chL (l.drop k)), .int .i64 (Ru.wdL (l.drop k) : Nat)]) /\ Below wr.heap.size wr w') := Lib.hid fun k wr hk hbel => by
  have hlen : (l.drop k).length = l.length - k := by simp
  have := next_any (l.drop k) (hl.drop k) (fun h => by rw [h] at hlen; simp at hlen; omega) b (off + k) (cap - k) wr (by omega) (by omega) ⟨(hT.below hbel).1, by have := hbel.size; have := hT.2; omega⟩ (fun j hj => by
   rw [hlen] at hj
   rw [Nat.add_assoc, hbel.cell (p := ⟨b, off + (k + j), none⟩) hb, hp (k + j) (by omega), Ru.g_drop])
  rw [hlen] at this
  exact this
 have HP := Lib.hid hp
 have HBY := Lib.hid hl
 clear hT hl hp
 go_enter Tryz.func48, Tryz.ntmps48
 go_wp2_with (first | (go_at_call 82; ((with_reducible refine (CC.out).mono ?_); rintro e w0 ⟨c, rfl, hc, hb0⟩)) | (at_make; refine wpList_make_own _ rfl _ _ 83 rfl w.heap.size 21 i0 (.int .i32 0) 1 Tryz.underlying83 hi hz0 hz1 .i64 .i64 _ c rfl rfl rfl (by rw [hz2]; omega) (by unfold maxLen; omega) hb0.size ?_; intro w1 hown1 hgrow1))
 have hb1 : Below w.heap.size w w1 := hb0.grown hgrow1 hb0.size (by simp)
 have HB1 := Lib.hid hb1
 have HO1 := Lib.hid hown1
 clear hb1 hown1 hgrow1 hb0 CC
 go_wp2_with fail
 go_loopw [3, 4] (fun v3 v4 wr => ReadAt w l v3 v4 wr) (fun _ v4 _ => l.length - (RowKit.intOf v4).toNat)
 case atStart => exact ⟨0, [], Nat.zero_le _, rfl, Lib.hid rfl, HO1.out, HB1.out, Nat.le_refl _⟩
 case round =>
  obtain ⟨k, ds, hk, rfl, hrd, hown, hbel, hds⟩ := hrel
  have HO := Lib.hid hown
  have HB := Lib.hid hbel
  clear hown hbel HO1 HB1
  by_cases hlt : k < l.length
  ·have hne : l.drop k ≠ [] := drop_ne hlt
   have CN : Hid (∀ wr : World, Below w.heap.size w wr -> Calls Tryz.prog 83 #[.slice (some ⟨b, off + k, none⟩) (l.length - k) (cap - k)] wr fun e w' => e = .returned (.tuple #[.int .i32 (Ru.chL (l.drop k)), .int .i64 (Ru.wdL (l.drop k) : Nat)]) /\ Below wr.heap.size wr w') := Lib.hid fun wr h => CX.out k wr hlt h
   have hway := Ru.wayR l k hlt
   have hwd := Ru.wdL_le hne
   have hst := Ru.st_le hne
   rw [List.length_drop] at hwd hst
   have hrd' : Hid (Ru.rd l = (ds ++ [Ru.plain (Ru.chL (l.drop k))]) ++ Ru.rd (l.drop (k + Ru.st (l.drop k)))) := Lib.hid (by
    rw [hrd.out, Ru.rd_cons hne, List.drop_drop, List.append_assoc]; rfl)
   have hcb : ¬ cap = k := by omega
   generalize Ru.chL (l.drop k) = c at *
   generalize Ru.wdL (l.drop k) = d at *
   generalize Ru.st (l.drop k) = t at *
   clear CX hrd hne
   obtain ⟨d1, d2, d3⟩ := hwd
   obtain ⟨t1, t2⟩ := hst
   have hkd : IntKind.i64.wrap ((k : Int) + (d : Int)) = ((k + d : Nat) : Int) := by rw [IntWalk.i64_in _ (by omega)]; omega
   rcases hway with ⟨h, rfl⟩ | ⟨h, h2, rfl⟩ | ⟨h, h2, h3, rfl⟩ | ⟨h, h2, h3, rfl⟩
   ·go_wp2_with (first | (go_at_call 83; ((with_reducible refine (CN.out _ HB.out).mono ?_); rintro e w1 ⟨rfl, hb1⟩)) | (go_at_call 84; ((with_reducible refine (CP.out _ _).mono ?_); rintro e w2 ⟨rfl, rfl⟩)) | (at_builtin; refine wpList_append_own _ rfl _ _ 83 rfl w.heap.size 21 i0 (.int .i32 0) 1 4 Tryz.underlying83 hi hz0 hz1 hz2 rfl (by decide) _ _ _ rfl ((kept_below HO.out hb1 (Nat.le_refl _)).alloc _) ⟨w1.heap.size, 0, none⟩ 1 1 [.int .i32 (Ru.plain c)] rfl rfl ?c1 ?c2 ?c3 ?c4 ?c5 ?_))
    case c1 => exact one_cell _ _
    case c2 => simp [Value.oneCell']
    case c3 => unfold maxLen; omega
    case c4 => omega
    case c5 => have := HB.out.size; have := hb1.size; simp; omega
    intro v' w3 hown3 hgrow _
    have HO3 := Lib.hid (made_next HO.out HB.out hb1 hown3 hgrow)
    clear hown3 hgrow hb1
    go_wp2_with fail
    go_roundw
    case rel => exact ⟨k + t, ds ++ [Ru.plain c], by omega, by go_num, hrd', HO3.out.1, HO3.out.2, by simp; omega⟩
    case measure => simp [RowKit.intOf]; omega
   ·go_wp2_with (first | (go_at_call 83; ((with_reducible refine (CN.out _ HB.out).mono ?_); rintro e w1 ⟨rfl, hb1⟩)) | (go_at_call 84; ((with_reducible refine (CP.out _ _).mono ?_); rintro e w2 ⟨rfl, rfl⟩)) | (at_builtin; refine wpList_append_own _ rfl _ _ 83 rfl w.heap.size 21 i0 (.int .i32 0) 1 4 Tryz.underlying83 hi hz0 hz1 hz2 rfl (by decide) _ _ _ rfl ((kept_below HO.out hb1 (Nat.le_refl _)).alloc _) ⟨w1.heap.size, 0, none⟩ 1 1 [.int .i32 (Ru.plain c)] rfl rfl ?c1 ?c2 ?c3 ?c4 ?c5 ?_))
    case c1 => exact one_cell _ _
    case c2 => simp [Value.oneCell']
    case c3 => unfold maxLen; omega
    case c4 => omega
    case c5 => have := HB.out.size; have := hb1.size; simp; omega
    intro v' w3 hown3 hgrow _
    have HO3 := Lib.hid (made_next HO.out HB.out hb1 hown3 hgrow)
    clear hown3 hgrow hb1
    go_wp2_with fail
    go_roundw
    case rel => exact ⟨k + t, ds ++ [Ru.plain c], by omega, by go_num, hrd', HO3.out.1, HO3.out.2, by simp; omega⟩
    case measure => simp [RowKit.intOf]; omega
   ·have hcell := HP.out (k + t) h2
    go_wp2_with (first | (go_at_call 83; ((with_reducible refine (CN.out _ HB.out).mono ?_); rintro e w1 ⟨rfl, hb1⟩; have hc1 := (hb1.cell (p := ⟨b, off + (k + t), none⟩) (by have := HB.out.size; show b < _; omega)).trans ((HB.out.cell (p := ⟨b, off + (k + t), none⟩) hb).trans hcell))) | (go_at_call 84; ((with_reducible refine (CP.out _ _).mono ?_); rintro e w2 ⟨rfl, rfl⟩)) | (at_builtin; refine wpList_append_own _ rfl _ _ 83 rfl w.heap.size 21 i0 (.int .i32 0) 1 4 Tryz.underlying83 hi hz0 hz1 hz2 rfl (by decide) _ _ _ rfl ((kept_below HO.out hb1 (Nat.le_refl _)).alloc _) ⟨w1.heap.size, 0, none⟩ 1 1 [.int .i32 (Ru.plain c)] rfl rfl ?c1 ?c2 ?c3 ?c4 ?c5 ?_))
    case c1 => exact one_cell _ _
    case c2 => simp [Value.oneCell']
    case c3 => unfold maxLen; omega
    case c4 => omega
    case c5 => have := HB.out.size; have := hb1.size; simp; omega
    intro v' w3 hown3 hgrow _
    have HO3 := Lib.hid (made_next HO.out HB.out hb1 hown3 hgrow)
    clear hown3 hgrow hb1
    go_wp2_with fail
    go_roundw
    case rel => exact ⟨k + t, ds ++ [Ru.plain c], by omega, by go_num, hrd', HO3.out.1, HO3.out.2, by simp; omega⟩
    case measure => simp [RowKit.intOf]; omega
   ·have hcell := HP.out (k + d) h2
    go_wp2_with (first | (go_at_call 83; ((with_reducible refine (CN.out _ HB.out).mono ?_); rintro e w1 ⟨rfl, hb1⟩; have hc1 := (hb1.cell (p := ⟨b, off + (k + d), none⟩) (by have := HB.out.size; show b < _; omega)).trans ((HB.out.cell (p := ⟨b, off + (k + d), none⟩) hb).trans hcell))) | (go_at_call 84; ((with_reducible refine (CP.out _ _).mono ?_); rintro e w2 ⟨rfl, rfl⟩)) | (at_builtin; refine wpList_append_own _ rfl _ _ 83 rfl w.heap.size 21 i0 (.int .i32 0) 1 4 Tryz.underlying83 hi hz0 hz1 hz2 rfl (by decide) _ _ _ rfl ((kept_below HO.out hb1 (Nat.le_refl _)).alloc _) ⟨w1.heap.size, 0, none⟩ 1 1 [.int .i32 (Ru.plain c)] rfl rfl ?c1 ?c2 ?c3 ?c4 ?c5 ?_))
    case c1 => exact one_cell _ _
    case c2 => simp [Value.oneCell']
    case c3 => unfold maxLen; omega
    case c4 => omega
    case c5 => have := HB.out.size; have := hb1.size; simp; omega
    intro v' w3 hown3 hgrow _
    have HO3 := Lib.hid (made_next HO.out HB.out hb1 hown3 hgrow)
    clear hown3 hgrow hb1
    go_wp2_with fail
    go_roundw
    case rel => exact ⟨k + (d + 1), ds ++ [Ru.plain c], by omega, by go_num, hrd', HO3.out.1, HO3.out.2, by simp; omega⟩
    case measure => simp [RowKit.intOf]; omega
  ·obtain rfl : k = l.length := by omega
   have hd : Ru.rd l = ds := by rw [hrd.out, List.drop_length, Ru.rd_nil, List.append_nil]
   have HD := Lib.hid hd
   clear hd hrd CX
   go_wp2_with fail
   go_ret
   exact ⟨_, rfl, by rw [HD.out]; exact HO.out, HB.out⟩
theorem read_told (l : List Int) (hl : Ru.By l) (A : Option Addr) (cap : Nat) (w : World) (hm : l.length <= 65536) (hcap : l.length <= cap) (hT : UTab w.heap.size w) (hA : Bs w w.heap.size .u8 A l) :
 Calls Tryz.prog 48 #[.slice A l.length cap] w (Made .i32 21 (Ru.rd l) w) := by
 by_cases h0 : 0 < l.length
 ·obtain ⟨b, off, rfl, hb, hp⟩ := hA h0
  exact read_cons l hl h0 b off cap w hm hcap hT hb hp
 ·have : l = [] := List.eq_nil_of_length_eq_zero (by omega)
  subst this
  exact read_nil A cap w
structure Mv (g : Nat) (w w' : World) : Prop where
 os : w'.os = w.os
 tape : w'.tape = w.tape
 output : w'.output = w.output
 size : w.heap.size <= w'.heap.size
 block : ∀ k, k < w.heap.size -> k ≠ g -> w'.heap[k]? = w.heap[k]?
section
variable {g : Nat} {w w' w2 : World}
theorem Mv.refl (g : Nat) (w : World) : Mv g w w := ⟨rfl, rfl, rfl, Nat.le_refl _, fun _ _ _ => rfl⟩
theorem Mv.trans (h : Mv g w w') (k : Mv g w' w2) : Mv g w w2 :=
 ⟨k.os.trans h.os, k.tape.trans h.tape, k.output.trans h.output, Nat.le_trans h.size k.size, fun i hi hg => (k.block i (Nat.lt_of_lt_of_le hi h.size) hg).trans (h.block i hi hg)⟩
theorem Mv.of_below {B : Nat} (h : Below B w w') (hB : w.heap.size <= B) : Mv g w w' :=
 ⟨h.os, h.tape, h.output, h.size, fun k hk _ => h.block k (by omega)⟩
theorem Mv.then_ {B : Nat} (h : Mv g w w') (k : Below B w' w2) (hB : w.heap.size <= B) : Mv g w w2 :=
 ⟨k.os.trans h.os, k.tape.trans h.tape, k.output.trans h.output, Nat.le_trans h.size k.size, fun i hi hg => (k.block i (by omega)).trans (h.block i hi hg)⟩
theorem Mv.alloc (h : Mv g w w') (o : Obj) : Mv g w (w'.alloc o) := h.then_ ((Below.refl _ _).alloc (Nat.le_refl _) o) h.size
theorem Mv.drewN (h : Mv g w w') (n : Nat) : Mv g w (w'.drewN n) := h.then_ (below_drewN (Below.refl _ _) n) (Nat.le_refl _)
theorem Mv.set (h : Mv g w w') (i : Nat) (u : Value) : Mv g w (w'.setCell ⟨g, i, none⟩ u) :=
 ⟨h.os, h.tape, h.output, by simpa [World.setCell] using h.size, fun k hk hg => (Below.heap_setCell w' ⟨g, i, none⟩ u k hg).trans (h.block k hk hg)⟩
theorem Mv.below (h : Mv g w w') {B : Nat} (hB : B <= g) (hs : B <= w.heap.size) : Below B w w' :=
 ⟨h.os, h.tape, h.output, h.size, fun k hk => h.block k (by omega) (by omega)⟩
theorem own_mv {base : Nat} {e : TypeId} {size n : Nat} {v : Value} {xs : List Value} (h : w.ownsRow base e size v n xs) (hb : Mv g w w') (hg : g < base) : w'.ownsRow base e size v n xs :=
 h.kept (row := some g) ⟨hb.os, hb.tape, hb.output, hb.size, fun k hk hne => hb.block k hk (fun e => hne (by rw [e]))⟩ (by
  cases hv : v.ownBlock with
  | none => exact .inl rfl
  | some x => exact .inr (fun e => by have := (h.lt x hv).1; injection e with e; omega))
end
structure Sc (w : World) (g : Nat) (A : Option Addr) (cap : Nat) (l : List Int) (pl : ByteArray) (k : Nat) : Prop where
 blk : w.heap[g]? = some (.cells #[.slice A l.length cap, .int .i64 k, .string pl] 89 (0, 0))
 on : Bs w g .i32 A l
section
variable {w w' : World} {g cap k : Nat} {A : Option Addr} {l : List Int} {pl : ByteArray}
theorem Sc.lt (h : Sc w g A cap l pl k) : g < w.heap.size := lt_of_block h.blk
theorem Sc.c0 (h : Sc w g A cap l pl k) : w.cell? ⟨g, 0, none⟩ = some (.slice A l.length cap) := by simp [World.cell?, h.blk]
theorem Sc.c1 (h : Sc w g A cap l pl k) : w.cell? ⟨g, 1, none⟩ = some (.int .i64 k) := by simp [World.cell?, h.blk]
theorem Sc.c2 (h : Sc w g A cap l pl k) : w.cell? ⟨g, 2, none⟩ = some (.string pl) := by simp [World.cell?, h.blk]
theorem Sc.f1 (h : Sc w g A cap l pl k) : w.frozen? ⟨g, 1, none⟩ = false := by simp [World.frozen?, h.blk]
theorem Sc.below (h : Sc w g A cap l pl k) {B : Nat} (hb : Below B w w') (hB : g < B) : Sc w' g A cap l pl k :=
 ⟨(hb.block g hB).trans h.blk, h.on.below (hb.mono (by omega))⟩
theorem Sc.drewN (h : Sc w g A cap l pl k) (n : Nat) : Sc (w.drewN n) g A cap l pl k := h.below (below_drewN (Below.refl (g + 1) _) n) (Nat.lt_succ_self _)
theorem Sc.alloc (h : Sc w g A cap l pl k) (o : Obj) : Sc (w.alloc o) g A cap l pl k := h.below ((Below.refl _ _).alloc (Nat.le_refl _) o) h.lt
theorem Sc.goes (h : Sc w g A cap l pl k) (j : Nat) : Sc (w.setCell ⟨g, 1, none⟩ (.int .i64 j)) g A cap l pl j := by
 refine ⟨?_, h.on.keep fun p hp => World.cell?_setCell_other w ⟨g, 1, none⟩ p _ (fun e => by subst e; exact absurd hp (Nat.lt_irrefl _))⟩
 have := h.blk
 simp [World.setCell, Array.getElem?_modify, this]
end
def Ga (w : World) (c : Nat) (ds : List Int) : Prop :=
 ∃ v, w.heap[c]? = some (.cells #[v] 83 (0, 0)) /\ w.ownsRow (c + 1) 21 1 v ds.length (nums .i32 ds)
theorem Ga.mv {w w' : World} {g c : Nat} {ds : List Int} (h : Ga w c ds) (hb : Mv g w w') (hg : g < c) : Ga w' c ds := by
 obtain ⟨v, hc, ho⟩ := h
 exact ⟨v, (hb.block c (lt_of_block hc) (by omega)).trans hc, own_mv ho hb (by omega)⟩
def Stp (g : Nat) (A : Option Addr) (cap : Nat) (l : List Int) (pl : ByteArray) (k : Nat) (v : Value) (w : World) (e : Ending) (w' : World) : Prop :=
 e = .returned v /\ Sc w' g A cap l pl k /\ Mv g w w'
def Tz (w : World) (b : Nat) : Prop := w.heap[b]? = some (.cells #[.int .i64 0, .string ⟨#[]⟩, .int .i64 0] 70 (0, 0))
section
variable {w w' : World} {g b : Nat}
theorem Tz.cells (h : Tz w b) : w.cell? ⟨b, 0, none⟩ = some (.int .i64 0) /\ w.cell? ⟨b, 1, none⟩ = some (.string ⟨#[]⟩) /\ w.cell? ⟨b, 2, none⟩ = some (.int .i64 0) /\ w.frozen? ⟨b, 0, none⟩ = false /\ w.frozen? ⟨b, 1, none⟩ = false /\ w.frozen? ⟨b, 2, none⟩ = false := by
 unfold Tz at h
 refine ⟨?_, ?_, ?_, ?_, ?_, ?_⟩ <;> simp [World.cell?, World.frozen?, h]
theorem Tz.mv (h : Tz w b) (hb : Mv g w w') (hg : g < b) : Tz w' b := (hb.block b (lt_of_block h) (by omega)).trans h
theorem Tz.below (h : Tz w b) {B : Nat} (hb : Below B w w') (hB : b < B) : Tz w' b := (hb.block b hB).trans h
theorem Tz.new (w : World) : Tz (w.alloc (.cells #[.int .i64 0, .string ⟨#[]⟩, .int .i64 0] 70)) w.heap.size := heap_alloc_new w _
theorem tz_stores {w0 : World} (h : Mv g w0 w) (hb : w0.heap.size <= b) (x y z : Value) : Mv g w0 (((w.setCell ⟨b, 0, none⟩ x).setCell ⟨b, 1, none⟩ y).setCell ⟨b, 2, none⟩ z) :=
 h.then_ ((((Below.refl b w).setCell (Nat.le_refl _) _).setCell (Nat.le_refl _) _).setCell (Nat.le_refl _) _) hb
theorem sc_stores {A : Option Addr} {cap : Nat} {l : List Int} {pl : ByteArray} {k : Nat} (h : Sc w g A cap l pl k) (hb : g < b) (x y z : Value) : Sc (((w.setCell ⟨b, 0, none⟩ x).setCell ⟨b, 1, none⟩ y).setCell ⟨b, 2, none⟩ z) g A cap l pl k :=
 h.below ((((Below.refl b w).setCell (Nat.le_refl _) _).setCell (Nat.le_refl _) _).setCell (Nat.le_refl _) _) hb
end
section
variable {w : World} {g cap k : Nat} {A : Option Addr} {l : List Int} {pl : ByteArray}
theorem peek_any (x : Int) (a : Nat) (hx : x = (a : Int)) (hm : l.length <= 65536) (hk : k <= l.length) (ha : a <= 4) (h : Sc w g A cap l pl k) :
 Calls Tryz.prog 49 #[.pointer (some ⟨g, 0, none⟩), .int .i64 x] w (Stp g A cap l pl k (.int .i32 (Tk.at' l (k + a))) w) := by
 subst hx
 have HS := Lib.hid h
 have c0 := h.c0
 have c1 := h.c1
 have e1 : IntKind.i64.wrap ((k : Int) + (a : Int)) = (k : Int) + (a : Int) := IntWalk.i64_in _ (by omega)
 have e2 : (0 : Int) <= (k : Int) + (a : Int) := by omega
 have e3 : ((k : Int) + (a : Int)).toNat = k + a := by omega
 by_cases hlt : k + a < l.length
 ·obtain ⟨b, off, hA, hb, hp⟩ := h.on (by omega)
  subst hA
  have hc := hp (k + a) hlt
  rw [Tk.at_in hlt]
  generalize Ru.g l (k + a) = y at *
  clear hp h
  go_enter Tryz.func49, Tryz.ntmps49
  go_wp2_with fail
  go_quiet (fail)
  go_wp2_with fail
  go_quiet (fail)
  go_wp2_with fail
  go_ret
  exact ⟨rfl, (HS.out.drewN _).drewN _, ((Mv.refl _ _).drewN _).drewN _⟩
 ·rw [Tk.at_out hlt]
  clear h
  go_enter Tryz.func49, Tryz.ntmps49
  go_wp2_with fail
  go_quiet (fail)
  go_wp2_with fail
  go_ret
  exact ⟨rfl, HS.out.drewN _, (Mv.refl _ _).drewN _⟩
theorem min_cast {k a n : Nat} : min ((k : Int) + (a : Int)) (n : Int) = ((min (k + a) n : Nat) : Int) := by omega
theorem pass_any (x : Int) (a : Nat) (hx : x = (a : Int)) (hm : l.length <= 65536) (hk : k <= l.length) (ha : a <= 65536) (h : Sc w g A cap l pl k) :
 Calls Tryz.prog 155 #[.pointer (some ⟨g, 0, none⟩), .int .i64 x] w (Stp g A cap l pl (min (k + a) l.length) (.tuple #[]) w) := by
 subst hx
 have HS := Lib.hid h
 have c0 := h.c0
 have c1 := h.c1
 have f1 := h.f1
 have e1 : IntKind.i64.wrap ((k : Int) + (a : Int)) = (k : Int) + (a : Int) := IntWalk.i64_in _ (by omega)
 have e2 : (0 : Int) <= (k : Int) + (a : Int) := by omega
 clear h
 go_enter Tryz.func155, Tryz.ntmps155
 go_wp2_with fail
 go_region
 go_end0
 refine ⟨rfl, ?_, ?_⟩
 ·rw [min_cast]; exact (HS.out.goes _).drewN 1
 ·rw [min_cast]; exact ((Mv.refl _ _).set 1 _).drewN 1
end
section
variable {w : World} {g cap k : Nat} {A : Option Addr} {l : List Int} {pl : ByteArray}
theorem take_any (hm : l.length <= 65536) (hk : k <= l.length) (S : Sc w g A cap l pl k) :
 Calls Tryz.prog 91 #[.pointer (some ⟨g, 0, none⟩)] w (Stp g A cap l pl (min (k + 1) l.length) (.int .i32 (Tk.at' l k)) w) := by
 have C0 : Hid (∀ w', Sc w' g A cap l pl k -> Calls Tryz.prog 49 #[.pointer (some ⟨g, 0, none⟩), .int .i64 0] w' (Stp g A cap l pl k (.int .i32 (Tk.at' l k)) w')) := Lib.hid fun w' h => peek_any 0 0 rfl hm hk (by omega) h
 have C1 : Hid (∀ w', Sc w' g A cap l pl k -> Calls Tryz.prog 155 #[.pointer (some ⟨g, 0, none⟩), .int .i64 1] w' (Stp g A cap l pl (min (k + 1) l.length) (.tuple #[]) w')) := Lib.hid fun w' h => pass_any 1 1 rfl hm hk (by omega) h
 generalize Tk.at' l k = y at *
 have M := Mv.refl g w
 go_enter Tryz.func91, Tryz.ntmps91
 go_wp2_with (first | (go_at_call 49; (first | (with_reducible refine (C0.out _ S).mono ?_)); rintro e w1 ⟨rfl, S, m1⟩; have M := M.trans m1; clear m1) | (go_at_call 155; (first | (with_reducible refine (C1.out _ S).mono ?_)); rintro e w1 ⟨rfl, S, m1⟩; have M := M.trans m1; clear m1))
 go_ret
 exact ⟨rfl, S, M⟩
theorem take_in (hm : l.length <= 65536) (hk : k < l.length) (S : Sc w g A cap l pl k) :
 Calls Tryz.prog 91 #[.pointer (some ⟨g, 0, none⟩)] w (Stp g A cap l pl (k + 1) (.int .i32 (Tk.at' l k)) w) := by
 have := take_any hm (by omega) S
 rwa [Nat.min_eq_left (by omega)] at this
theorem escapes_any (x : Int) (a : Nat) (hx : x = (a : Int)) (hN : ∀ c ∈ l, 0 <= c) (hm : l.length <= 65536) (hk : k <= l.length) (ha : a <= 2) (S : Sc w g A cap l pl k) :
 Calls Tryz.prog 90 #[.pointer (some ⟨g, 0, none⟩), .int .i64 x] w (Stp g A cap l pl k (.bool (Tk.esc l (k + a))) w) := by
 subst hx
 have C0 : Hid (∀ w', Sc w' g A cap l pl k -> Calls Tryz.prog 49 #[.pointer (some ⟨g, 0, none⟩), .int .i64 a] w' (Stp g A cap l pl k (.int .i32 (Tk.at' l (k + a))) w')) := Lib.hid fun w' h => peek_any _ a rfl hm hk (by omega) h
 have C1 : Hid (∀ w', Sc w' g A cap l pl k -> Calls Tryz.prog 49 #[.pointer (some ⟨g, 0, none⟩), .int .i64 ((a : Int) + 1)] w' (Stp g A cap l pl k (.int .i32 (Tk.at' l (k + a + 1))) w')) := Lib.hid fun w' h => peek_any _ (a + 1) (by omega) hm hk (by omega) h
 rw [Tk.esc_code hN]
 clear hN
 generalize Tk.at' l (k + a) = a0 at *
 generalize Tk.at' l (k + a + 1) = a1 at *
 have M := Mv.refl g w
 by_cases e0 : a0 = 92
 ·subst e0
  by_cases e1 : a1 = 10
  ·subst e1
   go_enter Tryz.func90, Tryz.ntmps90
   go_wp2_with (go_at_call 49; (first | (with_reducible refine (C0.out _ S).mono ?_) | (with_reducible refine (C1.out _ S).mono ?_)); rintro e w1 ⟨rfl, S, m1⟩; have M := M.trans m1; clear m1)
   go_ret
   exact ⟨rfl, S, M⟩
  ·have f1 := Ru.ne_t e1
   by_cases e2 : a1 = -1
   ·subst e2
    go_enter Tryz.func90, Tryz.ntmps90
    go_wp2_with (go_at_call 49; (first | (with_reducible refine (C0.out _ S).mono ?_) | (with_reducible refine (C1.out _ S).mono ?_)); rintro e w1 ⟨rfl, S, m1⟩; have M := M.trans m1; clear m1)
    go_ret
    exact ⟨rfl, S, M⟩
   ·have f2 := Ru.ne_t e2
    go_enter Tryz.func90, Tryz.ntmps90
    go_wp2_with (go_at_call 49; (first | (with_reducible refine (C0.out _ S).mono ?_) | (with_reducible refine (C1.out _ S).mono ?_)); rintro e w1 ⟨rfl, S, m1⟩; have M := M.trans m1; clear m1)
    go_ret
    exact ⟨ret_bool (by simp [e1, e2]), S, M⟩
 ·have f0 := Ru.ne_t e0
  go_enter Tryz.func90, Tryz.ntmps90
  go_wp2_with (go_at_call 49; (first | (with_reducible refine (C0.out _ S).mono ?_) | (with_reducible refine (C1.out _ S).mono ?_)); rintro e w1 ⟨rfl, S, m1⟩; have M := M.trans m1; clear m1)
  go_ret
  exact ⟨ret_bool (by simp [e0]), S, M⟩
theorem begins_at (x : Int) (a : Nat) (hx : x = (a : Int)) (hN : ∀ c ∈ l, 0 <= c) (hm : l.length <= 65536) (hk : k <= l.length) (ha : a <= 2) (S : Sc w g A cap l pl k) :
 Calls Tryz.prog 160 #[.pointer (some ⟨g, 0, none⟩), .int .i64 x] w (Stp g A cap l pl k (.bool (Tk.may l (k + a))) w) := by
 subst hx
 have C0 : Hid (∀ w', Sc w' g A cap l pl k -> Calls Tryz.prog 49 #[.pointer (some ⟨g, 0, none⟩), .int .i64 a] w' (Stp g A cap l pl k (.int .i32 (Tk.at' l (k + a))) w')) := Lib.hid fun w' h => peek_any _ a rfl hm hk (by omega) h
 have C1 : Hid (∀ w', Sc w' g A cap l pl k -> Calls Tryz.prog 90 #[.pointer (some ⟨g, 0, none⟩), .int .i64 a] w' (Stp g A cap l pl k (.bool (Tk.esc l (k + a))) w')) := Lib.hid fun w' h => escapes_any _ a rfl hN hm hk ha h
 unfold Tk.may
 clear hN
 generalize Tk.at' l (k + a) = a0 at *
 generalize Tk.esc l (k + a) = b0 at *
 have M := Mv.refl g w
 cases hb : Ru.begB a0
 all_goals
  go_enter Tryz.func160, Tryz.ntmps160
  go_wp2_with (first | (go_at_call 49; (first | (with_reducible refine (C0.out _ S).mono ?_)); rintro e w1 ⟨rfl, S, m1⟩; have M := M.trans m1; clear m1) | (go_at_call 156; ((with_reducible refine (begins_any _ _).mono ?_); rintro e w1 ⟨rfl, rfl⟩)) | (go_at_call 90; (first | (with_reducible refine (C1.out _ S).mono ?_)); rintro e w1 ⟨rfl, S, m1⟩; have M := M.trans m1; clear m1))
  go_ret
  exact ⟨ret_bool (by simp), S, M⟩
theorem names_any (x : Int) (a : Nat) (hx : x = (a : Int)) (hN : ∀ c ∈ l, 0 <= c) (hm : l.length <= 65536) (hk : k <= l.length) (ha : a <= 1) (S : Sc w g A cap l pl k) :
 Calls Tryz.prog 95 #[.pointer (some ⟨g, 0, none⟩), .int .i64 x] w (Stp g A cap l pl k (.bool (Tk.begs l (k + a))) w) := by
 subst hx
 have C0 : Hid (∀ w', Sc w' g A cap l pl k -> Calls Tryz.prog 49 #[.pointer (some ⟨g, 0, none⟩), .int .i64 a] w' (Stp g A cap l pl k (.int .i32 (Tk.at' l (k + a))) w')) := Lib.hid fun w' h => peek_any _ a rfl hm hk (by omega) h
 have C1 : Hid (∀ w', Sc w' g A cap l pl k -> Calls Tryz.prog 49 #[.pointer (some ⟨g, 0, none⟩), .int .i64 ((a : Int) + 1)] w' (Stp g A cap l pl k (.int .i32 (Tk.at' l (k + a + 1))) w')) := Lib.hid fun w' h => peek_any _ (a + 1) (by omega) hm hk (by omega) h
 have D0 : Hid (∀ w', Sc w' g A cap l pl k -> Calls Tryz.prog 160 #[.pointer (some ⟨g, 0, none⟩), .int .i64 a] w' (Stp g A cap l pl k (.bool (Tk.may l (k + a))) w')) := Lib.hid fun w' h => begins_at _ a rfl hN hm hk (by omega) h
 have D1 : Hid (∀ w', Sc w' g A cap l pl k -> Calls Tryz.prog 160 #[.pointer (some ⟨g, 0, none⟩), .int .i64 ((a : Int) + 1)] w' (Stp g A cap l pl k (.bool (Tk.may l (k + a + 1))) w')) := Lib.hid fun w' h => begins_at _ (a + 1) (by omega) hN hm hk (by omega) h
 rw [Tk.begs_code]
 clear hN
 generalize Tk.at' l (k + a) = a0 at *
 generalize Tk.at' l (k + a + 1) = a1 at *
 generalize Tk.may l (k + a) = b0 at *
 generalize Tk.may l (k + a + 1) = b1 at *
 have M := Mv.refl g w
 by_cases e0 : a0 = 45
 ·subst e0
  by_cases e1 : a1 = 45
  ·subst e1
   go_enter Tryz.func95, Tryz.ntmps95
   go_wp2_with (first | (go_at_call 49; (first | (with_reducible refine (C0.out _ S).mono ?_) | (with_reducible refine (C1.out _ S).mono ?_)); rintro e w1 ⟨rfl, S, m1⟩; have M := M.trans m1; clear m1) | (go_at_call 160; (first | (with_reducible refine (D0.out _ S).mono ?_) | (with_reducible refine (D1.out _ S).mono ?_)); rintro e w1 ⟨rfl, S, m1⟩; have M := M.trans m1; clear m1))
   go_ret
   exact ⟨ret_bool (by simp), S, M⟩
  ·have f1 := Ru.eq_f e1
   go_enter Tryz.func95, Tryz.ntmps95
   go_wp2_with (first | (go_at_call 49; (first | (with_reducible refine (C0.out _ S).mono ?_) | (with_reducible refine (C1.out _ S).mono ?_)); rintro e w1 ⟨rfl, S, m1⟩; have M := M.trans m1; clear m1) | (go_at_call 160; (first | (with_reducible refine (D0.out _ S).mono ?_) | (with_reducible refine (D1.out _ S).mono ?_)); rintro e w1 ⟨rfl, S, m1⟩; have M := M.trans m1; clear m1))
   go_ret
   exact ⟨ret_bool (by simp [e1]), S, M⟩
 ·have f0 := Ru.eq_f e0
  go_enter Tryz.func95, Tryz.ntmps95
  go_wp2_with (first | (go_at_call 49; (first | (with_reducible refine (C0.out _ S).mono ?_) | (with_reducible refine (C1.out _ S).mono ?_)); rintro e w1 ⟨rfl, S, m1⟩; have M := M.trans m1; clear m1) | (go_at_call 160; (first | (with_reducible refine (D0.out _ S).mono ?_) | (with_reducible refine (D1.out _ S).mono ?_)); rintro e w1 ⟨rfl, S, m1⟩; have M := M.trans m1; clear m1))
  go_ret
  exact ⟨ret_bool (by simp), S, M⟩
theorem opens_any (hm : l.length <= 65536) (hk : k <= l.length) (S : Sc w g A cap l pl k) :
 Calls Tryz.prog 86 #[.pointer (some ⟨g, 0, none⟩)] w (Stp g A cap l pl k (.bool (Tk.opn l k)) w) := by
 have C0 : Hid (∀ w', Sc w' g A cap l pl k -> Calls Tryz.prog 49 #[.pointer (some ⟨g, 0, none⟩), .int .i64 0] w' (Stp g A cap l pl k (.int .i32 (Tk.at' l k)) w')) := Lib.hid fun w' h => peek_any 0 0 rfl hm hk (by omega) h
 have C1 : Hid (∀ w', Sc w' g A cap l pl k -> Calls Tryz.prog 49 #[.pointer (some ⟨g, 0, none⟩), .int .i64 1] w' (Stp g A cap l pl k (.int .i32 (Tk.at' l (k + 1))) w')) := Lib.hid fun w' h => peek_any 1 1 rfl hm hk (by omega) h
 unfold Tk.opn
 generalize Tk.at' l k = a0 at *
 generalize Tk.at' l (k + 1) = a1 at *
 have M := Mv.refl g w
 by_cases e0 : a0 = 47
 ·subst e0
  by_cases e1 : a1 = 42
  ·subst e1
   go_enter Tryz.func86, Tryz.ntmps86
   go_wp2_with (go_at_call 49; (first | (with_reducible refine (C0.out _ S).mono ?_) | (with_reducible refine (C1.out _ S).mono ?_)); rintro e w1 ⟨rfl, S, m1⟩; have M := M.trans m1; clear m1)
   go_ret
   exact ⟨rfl, S, M⟩
  ·have f1 := Ru.eq_f e1
   go_enter Tryz.func86, Tryz.ntmps86
   go_wp2_with (go_at_call 49; (first | (with_reducible refine (C0.out _ S).mono ?_) | (with_reducible refine (C1.out _ S).mono ?_)); rintro e w1 ⟨rfl, S, m1⟩; have M := M.trans m1; clear m1)
   go_ret
   exact ⟨ret_bool (by simp [e1]), S, M⟩
 ·have f0 := Ru.eq_f e0
  go_enter Tryz.func86, Tryz.ntmps86
  go_wp2_with (go_at_call 49; (first | (with_reducible refine (C0.out _ S).mono ?_) | (with_reducible refine (C1.out _ S).mono ?_)); rintro e w1 ⟨rfl, S, m1⟩; have M := M.trans m1; clear m1)
  go_ret
  exact ⟨ret_bool (by simp [e0]), S, M⟩
end
section
variable {w : World} {g cap k : Nat} {A : Option Addr} {l : List Int} {pl : ByteArray}
def CmtC (g : Nat) (A : Option Addr) (cap : Nat) (l : List Int) (pl : ByteArray) (k : Nat) (w : World) (r : Nat) (wr : World) : Prop :=
 ∃ j, j <= l.length /\ l.length - j <= r /\ Hid (Tk.cmtE l (k + 2) = Tk.cmtE l j) /\ Sc wr g A cap l pl j /\ Mv g w wr
theorem passComment_any (hN : ∀ c ∈ l, 0 <= c) (hm : l.length <= 65536) (ho : Tk.opn l k = true) (S : Sc w g A cap l pl k) :
 Calls Tryz.prog 152 #[.pointer (some ⟨g, 0, none⟩)] w (Stp g A cap l pl (Tk.cmt l k) (.tuple #[]) w) := by
 have hk := Tk.opn_lt ho
 have HN := Lib.hid hN
 clear hN ho
 have P0 : Hid (∀ w', Sc w' g A cap l pl k -> Calls Tryz.prog 155 #[.pointer (some ⟨g, 0, none⟩), .int .i64 2] w' (Stp g A cap l pl (k + 2) (.tuple #[]) w')) := Lib.hid fun w' h => by have := pass_any 2 2 rfl hm (by omega) (by omega) h; rwa [Nat.min_eq_left (by omega)] at this
 have M := Mv.refl g w
 go_enter Tryz.func152, Tryz.ntmps152
 go_wp2_with (go_at_call 155; (first | (with_reducible refine (P0.out _ S).mono ?_)); rintro e w1 ⟨rfl, S, m1⟩; have M := M.trans m1; clear m1)
 clear P0
 go_loopg [] l.length (fun r wr => CmtC g A cap l pl k w r wr)
 case atStart => exact ⟨k + 2, by omega, by omega, Lib.hid rfl, S, M⟩
 case round =>
  clear S M
  obtain ⟨j, hj, hr, HC, S, M⟩ := hrel
  have C0 : Hid (∀ w', Sc w' g A cap l pl j -> Calls Tryz.prog 49 #[.pointer (some ⟨g, 0, none⟩), .int .i64 0] w' (Stp g A cap l pl j (.int .i32 (Tk.at' l j)) w')) := Lib.hid fun w' h => peek_any 0 0 rfl hm hj (by omega) h
  have C1 : Hid (∀ w', Sc w' g A cap l pl j -> Calls Tryz.prog 49 #[.pointer (some ⟨g, 0, none⟩), .int .i64 1] w' (Stp g A cap l pl j (.int .i32 (Tk.at' l (j + 1))) w')) := Lib.hid fun w' h => peek_any 1 1 rfl hm hj (by omega) h
  have P2 : Hid (∀ w', Sc w' g A cap l pl j -> Calls Tryz.prog 155 #[.pointer (some ⟨g, 0, none⟩), .int .i64 2] w' (Stp g A cap l pl (min (j + 2) l.length) (.tuple #[]) w')) := Lib.hid fun w' h => pass_any 2 2 rfl hm hj (by omega) h
  by_cases hlt : j < l.length
  ·have h0 := Tk.at_neg HN.out hlt
   have f0 := Ru.ne_t (show ¬ Tk.at' l j = -1 by omega)
   have T0 : Hid (∀ w', Sc w' g A cap l pl j -> Calls Tryz.prog 91 #[.pointer (some ⟨g, 0, none⟩)] w' (Stp g A cap l pl (j + 1) (.int .i32 (Tk.at' l j)) w')) := Lib.hid fun w' h => take_in hm hlt h
   by_cases e1 : Tk.at' l j = 42
   ·by_cases e2 : Tk.at' l (j + 1) = 47
    ·have HE : Hid (min (j + 2) l.length = Tk.cmt l k) := Lib.hid (by unfold Tk.cmt; rw [HC.out, Tk.cmtE_no (fun h => h.2 ⟨by rw [<- Tk.at_in hlt]; exact e1, e2⟩)])
     rw [e1] at C0 f0
     rw [e2] at C1
     clear e1 e2 HC T0 h0
     go_wp2_with (first | (go_at_call 49; (first | (with_reducible refine (C0.out _ S).mono ?_) | (with_reducible refine (C1.out _ S).mono ?_)); rintro e w1 ⟨rfl, S, m1⟩; have M := M.trans m1; clear m1) | (go_at_call 155; (first | (with_reducible refine (P2.out _ S).mono ?_)); rintro e w1 ⟨rfl, S, m1⟩; have M := M.trans m1; clear m1))
     go_end0
     exact ⟨rfl, by rw [<- HE.out]; exact S, M⟩
    ·have HE : Hid (Tk.cmtE l (k + 2) = Tk.cmtE l (j + 1)) := Lib.hid (by rw [HC.out, Tk.cmtE_yes ⟨hlt, fun h => e2 h.2⟩])
     have f2 := Ru.ne_t e2
     rw [e1] at C0 f0
     clear e1 e2 HC P2 h0
     generalize Tk.at' l j = a0 at *
     generalize Tk.at' l (j + 1) = a1 at *
     go_wp2_with (first | (go_at_call 49; (first | (with_reducible refine (C0.out _ S).mono ?_) | (with_reducible refine (C1.out _ S).mono ?_)); rintro e w1 ⟨rfl, S, m1⟩; have M := M.trans m1; clear m1) | (go_at_call 91; (first | (with_reducible refine (T0.out _ S).mono ?_)); rintro e w1 ⟨rfl, S, m1⟩; have M := M.trans m1; clear m1))
     go_roundg (l.length - (j + 1))
     case measure => omega
     case rel => exact ⟨j + 1, by omega, by omega, HE, S, M⟩
   ·have HE : Hid (Tk.cmtE l (k + 2) = Tk.cmtE l (j + 1)) := Lib.hid (by rw [HC.out, Tk.cmtE_yes ⟨hlt, fun h => e1 (by rw [Tk.at_in hlt]; exact h.1)⟩])
    have f1 := Ru.ne_t e1
    clear e1 HC P2 h0
    generalize Tk.at' l j = a0 at *
    generalize Tk.at' l (j + 1) = a1 at *
    go_wp2_with (first | (go_at_call 49; (first | (with_reducible refine (C0.out _ S).mono ?_) | (with_reducible refine (C1.out _ S).mono ?_)); rintro e w1 ⟨rfl, S, m1⟩; have M := M.trans m1; clear m1) | (go_at_call 91; (first | (with_reducible refine (T0.out _ S).mono ?_)); rintro e w1 ⟨rfl, S, m1⟩; have M := M.trans m1; clear m1))
    go_roundg (l.length - (j + 1))
    case measure => omega
    case rel => exact ⟨j + 1, by omega, by omega, HE, S, M⟩
  ·have HE : Hid (min (j + 2) l.length = Tk.cmt l k) := Lib.hid (by unfold Tk.cmt; rw [HC.out, Tk.cmtE_no (fun h => hlt h.1)])
   have ha := Tk.at_out hlt
   rw [ha] at C0
   clear ha HC
   go_wp2_with (first | (go_at_call 49; (first | (with_reducible refine (C0.out _ S).mono ?_) | (with_reducible refine (C1.out _ S).mono ?_)); rintro e w1 ⟨rfl, S, m1⟩; have M := M.trans m1; clear m1) | (go_at_call 155; (first | (with_reducible refine (P2.out _ S).mono ?_)); rintro e w1 ⟨rfl, S, m1⟩; have M := M.trans m1; clear m1))
   go_end0
   exact ⟨rfl, by rw [<- HE.out]; exact S, M⟩
def GapC (g : Nat) (A : Option Addr) (cap : Nat) (l : List Int) (pl : ByteArray) (k : Nat) (w : World) (r : Nat) (v : Value) (wr : World) : Prop :=
 ∃ (j : Nat) (b : Bool), j <= l.length /\ l.length - j <= r /\ v = .bool b /\ Hid (Tk.sp l k false = Tk.sp l j b) /\ Sc wr g A cap l pl j /\ Mv g w wr
theorem passGap_any (hN : ∀ c ∈ l, 0 <= c) (hm : l.length <= 65536) (hk : k <= l.length) (S : Sc w g A cap l pl k) :
 Calls Tryz.prog 87 #[.pointer (some ⟨g, 0, none⟩)] w (Stp g A cap l pl (Tk.sp l k false).1 (.bool (Tk.sp l k false).2) w) := by
 have HN := Lib.hid hN
 clear hN
 have M := Mv.refl g w
 go_enter Tryz.func87, Tryz.ntmps87
 go_wp2_with fail
 go_loopg [3] l.length (fun r v wr => GapC g A cap l pl k w r v wr)
 case atStart => exact ⟨k, false, hk, by omega, rfl, Lib.hid rfl, S, M⟩
 case round =>
  clear S M
  obtain ⟨j, b, hj, hr, rfl, HC, S, M⟩ := hrel
  have C0 : Hid (∀ w', Sc w' g A cap l pl j -> Calls Tryz.prog 49 #[.pointer (some ⟨g, 0, none⟩), .int .i64 0] w' (Stp g A cap l pl j (.int .i32 (Tk.at' l j)) w')) := Lib.hid fun w' h => peek_any 0 0 rfl hm hj (by omega) h
  have O0 : Hid (∀ w', Sc w' g A cap l pl j -> Calls Tryz.prog 86 #[.pointer (some ⟨g, 0, none⟩)] w' (Stp g A cap l pl j (.bool (Tk.opn l j)) w')) := Lib.hid fun w' h => opens_any hm hj h
  cases hw : Ru.whiB (Tk.at' l j)
  ·cases ho : Tk.opn l j
   ·have HE : Hid (Tk.sp l k false = (j, b)) := Lib.hid (by rw [HC.out, Tk.sp_no hw ho])
    rw [ho] at O0
    clear HC ho
    generalize Tk.at' l j = a0 at *
    go_wp2_with (first | (go_at_call 49; (first | (with_reducible refine (C0.out _ S).mono ?_)); rintro e w1 ⟨rfl, S, m1⟩; have M := M.trans m1; clear m1) | (go_at_call 85; ((with_reducible refine (white_any _ _).mono ?_); rintro e w1 ⟨rfl, rfl⟩)) | (go_at_call 86; (first | (with_reducible refine (O0.out _ S).mono ?_)); rintro e w1 ⟨rfl, S, m1⟩; have M := M.trans m1; clear m1))
    go_ret
    exact ⟨ret_bool (by rw [HE.out]), by rw [HE.out]; exact S, M⟩
   ·have HE : Hid (Tk.sp l k false = Tk.sp l (Tk.cmt l j) b) := Lib.hid (by rw [HC.out, Tk.sp_opn hw ho])
    have hc := Tk.cmt_le ho
    have Q0 : Hid (∀ w', Sc w' g A cap l pl j -> Calls Tryz.prog 152 #[.pointer (some ⟨g, 0, none⟩)] w' (Stp g A cap l pl (Tk.cmt l j) (.tuple #[]) w')) := Lib.hid fun w' h => passComment_any HN.out hm ho h
    rw [ho] at O0
    clear HC ho
    generalize Tk.at' l j = a0 at *
    generalize Tk.cmt l j = j2 at *
    go_wp2_with (first | (go_at_call 49; (first | (with_reducible refine (C0.out _ S).mono ?_)); rintro e w1 ⟨rfl, S, m1⟩; have M := M.trans m1; clear m1) | (go_at_call 85; ((with_reducible refine (white_any _ _).mono ?_); rintro e w1 ⟨rfl, rfl⟩)) | (go_at_call 86; (first | (with_reducible refine (O0.out _ S).mono ?_)); rintro e w1 ⟨rfl, S, m1⟩; have M := M.trans m1; clear m1) | (go_at_call 152; (first | (with_reducible refine (Q0.out _ S).mono ?_)); rintro e w1 ⟨rfl, S, m1⟩; have M := M.trans m1; clear m1))
    go_roundg (l.length - j2)
    case measure => omega
    case rel => exact ⟨j2, b, by omega, by omega, rfl, HE, S, M⟩
  ·have HE : Hid (Tk.sp l k false = Tk.sp l (j + 1) true) := Lib.hid (by rw [HC.out, Tk.sp_white hw])
   have hlt := Tk.whi_lt hw
   have T0 : Hid (∀ w', Sc w' g A cap l pl j -> Calls Tryz.prog 91 #[.pointer (some ⟨g, 0, none⟩)] w' (Stp g A cap l pl (j + 1) (.int .i32 (Tk.at' l j)) w')) := Lib.hid fun w' h => take_in hm hlt h
   clear HC
   generalize Tk.at' l j = a0 at *
   go_wp2_with (first | (go_at_call 49; (first | (with_reducible refine (C0.out _ S).mono ?_)); rintro e w1 ⟨rfl, S, m1⟩; have M := M.trans m1; clear m1) | (go_at_call 85; ((with_reducible refine (white_any _ _).mono ?_); rintro e w1 ⟨rfl, rfl⟩)) | (go_at_call 91; (first | (with_reducible refine (T0.out _ S).mono ?_)); rintro e w1 ⟨rfl, S, m1⟩; have M := M.trans m1; clear m1))
   go_roundg (l.length - (j + 1))
   case measure => omega
   case rel => exact ⟨j + 1, true, by omega, by omega, rfl, HE, S, M⟩
end
section
variable {w : World} {g cap k : Nat} {A : Option Addr} {l : List Int} {pl : ByteArray}
theorem or16 {n h : Int} (n1 : 0 <= n) (n2 : n <= 16777215) (h1 : 0 <= h) (h2 : h <= 15) : bits .or .i32 (n * 16) h = n * 16 + h :=
 bits_join .i32 31 (by decide) wraps_i32 4 (n * 16) h (by omega) (by omega) (by omega) h1 (by omega) (by omega)
def EscAt (g : Nat) (A : Option Addr) (cap : Nat) (l : List Int) (pl : ByteArray) (k : Nat) (w : World) (r : Nat) (v3 v4 : Value) (wr : World) : Prop :=
 ∃ (m j : Nat) (n : Int), m <= 6 /\ 6 - m <= r /\ v4 = .int .i64 m /\ v3 = .int .i32 n /\ j <= k + 1 + m /\ k + 1 + m <= j /\ j <= l.length /\ 0 <= n /\ n <= 16777215 /\ Hid (Tk.hexR (6 - m) l j n = Tk.hexR 6 l (k + 1) 0) /\ Hid (n < 16 ^ m) /\ Sc wr g A cap l pl j /\ Mv g w wr
theorem escape_any (hm : l.length <= 65536) (he : Tk.esc l k = true) (S : Sc w g A cap l pl k) :
 Calls Tryz.prog 154 #[.pointer (some ⟨g, 0, none⟩)] w (Stp g A cap l pl (Tk.meant l k).2 (.int .i32 (Tk.meant l k).1) w) := by
 have hk := (Tk.esc_lt he).1
 clear he
 have T0 : Hid (∀ w', Sc w' g A cap l pl k -> Calls Tryz.prog 91 #[.pointer (some ⟨g, 0, none⟩)] w' (Stp g A cap l pl (k + 1) (.int .i32 (Tk.at' l k)) w')) := Lib.hid fun w' h => take_in hm (by omega) h
 have C0 : Hid (∀ w', Sc w' g A cap l pl (k + 1) -> Calls Tryz.prog 49 #[.pointer (some ⟨g, 0, none⟩), .int .i64 0] w' (Stp g A cap l pl (k + 1) (.int .i32 (Tk.at' l (k + 1))) w')) := Lib.hid fun w' h => peek_any 0 0 rfl hm (by omega) (by omega) h
 have M := Mv.refl g w
 by_cases hh : 0 <= Ru.hexV (Tk.at' l (k + 1))
 ·have HH0 := Lib.hid hh
  generalize Tk.at' l k = y at *
  generalize hy1 : Tk.at' l (k + 1) = y1 at *
  have HY1 := Lib.hid hy1
  clear hy1
  go_enter Tryz.func154, Tryz.ntmps154
  go_wp2_with (first | (go_at_call 49; (first | (with_reducible refine (C0.out _ S).mono ?_)); rintro e w1 ⟨rfl, S, m1⟩; have M := M.trans m1; clear m1) | (go_at_call 91; (first | (with_reducible refine (T0.out _ S).mono ?_)); rintro e w1 ⟨rfl, S, m1⟩; have M := M.trans m1; clear m1) | (go_at_call 193; ((with_reducible refine (hex_any _ _).mono ?_); rintro e w1 ⟨rfl, rfl⟩)) | (go_at_call 85; ((with_reducible refine (white_any _ _).mono ?_); rintro e w1 ⟨rfl, rfl⟩)) | (go_at_call 194; ((with_reducible refine (is_any _ _).mono ?_); rintro e w1 ⟨rfl, rfl⟩)))
  go_loopg [3, 4] 6 (fun r v3 v4 wr => EscAt g A cap l pl k w r v3 v4 wr)
  case atStart => exact ⟨0, k + 1, 0, by omega, by omega, by go_num, rfl, by omega, by omega, by omega, by omega, by omega, Lib.hid rfl, Lib.hid (by decide), S, M⟩
  case round =>
   clear S M C0 T0 hh
   obtain ⟨m, j, n, m1, hr, rfl, rfl, j1, j2, j3, n1, n2, HR, HN16, S, M⟩ := hrel
   have C0 : Hid (∀ w', Sc w' g A cap l pl j -> Calls Tryz.prog 49 #[.pointer (some ⟨g, 0, none⟩), .int .i64 0] w' (Stp g A cap l pl j (.int .i32 (Tk.at' l j)) w')) := Lib.hid fun w' h => peek_any 0 0 rfl hm j3 (by omega) h
   by_cases hlt : m < 6
   ·by_cases hh : 0 <= Ru.hexV (Tk.at' l j)
    ·have hle := (Tk.hexV_le (Tk.at' l j)).2
     have hjl : j < l.length := Tk.at_lt (fun e => by rw [e, Tk.hexV_out] at hh; omega)
     have HX : Hid (Tk.hexR (6 - (m + 1)) l (j + 1) (n * 16 + Ru.hexV (Tk.at' l j)) = Tk.hexR 6 l (k + 1) 0) := Lib.hid (by
      have := Tk.hexR_yes (f := 6 - (m + 1)) (n := n) hh
      rw [<- HR.out, show 6 - m = 6 - (m + 1) + 1 by omega, this])
     have hp5 := Tk.pow16 (m := m) (by omega)
     have hn3 : n <= 1048575 := by have := HN16.out; omega
     have HN' : Hid (n * 16 + Ru.hexV (Tk.at' l j) < 16 ^ (m + 1)) := Lib.hid (by have := HN16.out; rw [Int.pow_succ]; omega)
     clear HN16 HR hp5
     have T0 : Hid (∀ w', Sc w' g A cap l pl j -> Calls Tryz.prog 91 #[.pointer (some ⟨g, 0, none⟩)] w' (Stp g A cap l pl (j + 1) (.int .i32 (Tk.at' l j)) w')) := Lib.hid fun w' h => take_in hm hjl h
     generalize Tk.at' l j = a at *
     generalize hhx : Ru.hexV a = h at *
     go_wp2_with (first | (go_at_call 49; (first | (with_reducible refine (C0.out _ S).mono ?_)); rintro e w1 ⟨rfl, S, m1⟩; have M := M.trans m1; clear m1) | (go_at_call 91; (first | (with_reducible refine (T0.out _ S).mono ?_)); rintro e w1 ⟨rfl, S, m1⟩; have M := M.trans m1; clear m1) | (go_at_call 193; ((with_reducible refine (hex_any _ _).mono ?_); rintro e w1 ⟨rfl, rfl⟩)) | (go_at_call 85; ((with_reducible refine (white_any _ _).mono ?_); rintro e w1 ⟨rfl, rfl⟩)) | (go_at_call 194; ((with_reducible refine (is_any _ _).mono ?_); rintro e w1 ⟨rfl, rfl⟩)))
     go_roundg (6 - (m + 1))
     case measure => omega
     case rel => exact ⟨m + 1, j + 1, n * 16 + h, by omega, by omega, by go_num, by rw [or16 n1 (by omega) (by omega) (by omega)], by omega, by omega, by omega, by omega, by omega, HX, HN', S, M⟩
    ·have HE : Hid (Tk.hexR 6 l (k + 1) 0 = (n, j)) := Lib.hid (by rw [<- HR.out, Tk.hexR_no hh])
     have hh' : Ru.hexV (Tk.at' l j) < 0 := by omega
     have m0 : m ≠ 0 := fun e => by
      have e2 : j = k + 1 := by omega
      rw [e2, HY1.out] at hh
      exact hh HH0.out
     clear hh
     have HM := Lib.hid (Tk.meant_some HE.out (by omega))
     have HK : Hid (Tk.meantK l j = if Ru.whiB (Tk.at' l j) = true then j + 1 else j) := Lib.hid rfl
     have HW : Hid (Ru.whiB (Tk.at' l j) = true -> j < l.length) := Lib.hid Tk.whi_lt
     clear HE HR HN16 HH0
     have T1 : Hid (j < l.length -> ∀ w', Sc w' g A cap l pl j -> Calls Tryz.prog 91 #[.pointer (some ⟨g, 0, none⟩)] w' (Stp g A cap l pl (j + 1) (.int .i32 (Tk.at' l j)) w')) := Lib.hid fun hlt w' h => take_in hm hlt h
     generalize Tk.at' l j = a at *
     by_cases n0 : n = 0
     ·subst n0
      have HV2 : Hid (Tk.meantN 0 = 65533) := Lib.hid rfl
      cases hw : Ru.whiB a
      ·rw [hw] at HK
       go_wp2_with (first | (go_at_call 49; (first | (with_reducible refine (C0.out _ S).mono ?_)); rintro e w1 ⟨rfl, S, m1⟩; have M := M.trans m1; clear m1) | (go_at_call 91; (first | (with_reducible refine (T0.out _ S).mono ?_)); rintro e w1 ⟨rfl, S, m1⟩; have M := M.trans m1; clear m1) | (go_at_call 193; ((with_reducible refine (hex_any _ _).mono ?_); rintro e w1 ⟨rfl, rfl⟩)) | (go_at_call 85; ((with_reducible refine (white_any _ _).mono ?_); rintro e w1 ⟨rfl, rfl⟩)) | (go_at_call 194; ((with_reducible refine (is_any _ _).mono ?_); rintro e w1 ⟨rfl, rfl⟩)))
       go_ret
       exact ⟨ret_int (by rw [HM.out]; exact HV2.out.symm), by rw [HM.out, HK.out]; simpa using S, M⟩
      ·rw [hw] at HK
       have T0 := Lib.hid (T1.out (HW.out hw))
       go_wp2_with (first | (go_at_call 49; (first | (with_reducible refine (C0.out _ S).mono ?_)); rintro e w1 ⟨rfl, S, m1⟩; have M := M.trans m1; clear m1) | (go_at_call 91; (first | (with_reducible refine (T0.out _ S).mono ?_)); rintro e w1 ⟨rfl, S, m1⟩; have M := M.trans m1; clear m1) | (go_at_call 193; ((with_reducible refine (hex_any _ _).mono ?_); rintro e w1 ⟨rfl, rfl⟩)) | (go_at_call 85; ((with_reducible refine (white_any _ _).mono ?_); rintro e w1 ⟨rfl, rfl⟩)) | (go_at_call 194; ((with_reducible refine (is_any _ _).mono ?_); rintro e w1 ⟨rfl, rfl⟩)))
       go_ret
       exact ⟨ret_int (by rw [HM.out]; exact HV2.out.symm), by rw [HM.out, HK.out]; simpa using S, M⟩
     ·have en : ((n : Int) == 0) = false := Ru.eq_f n0
      cases hi : Ru.isB n
      ·have HV2 : Hid (Tk.meantN n = 65533) := Lib.hid (by unfold Tk.meantN; rw [if_pos (Or.inr hi)])
       cases hw : Ru.whiB a
       ·rw [hw] at HK
        go_wp2_with (first | (go_at_call 49; (first | (with_reducible refine (C0.out _ S).mono ?_)); rintro e w1 ⟨rfl, S, m1⟩; have M := M.trans m1; clear m1) | (go_at_call 91; (first | (with_reducible refine (T0.out _ S).mono ?_)); rintro e w1 ⟨rfl, S, m1⟩; have M := M.trans m1; clear m1) | (go_at_call 193; ((with_reducible refine (hex_any _ _).mono ?_); rintro e w1 ⟨rfl, rfl⟩)) | (go_at_call 85; ((with_reducible refine (white_any _ _).mono ?_); rintro e w1 ⟨rfl, rfl⟩)) | (go_at_call 194; ((with_reducible refine (is_any _ _).mono ?_); rintro e w1 ⟨rfl, rfl⟩)))
        go_ret
        exact ⟨ret_int (by rw [HM.out, HV2.out]), by rw [HM.out, HK.out]; simpa using S, M⟩
       ·rw [hw] at HK
        have T0 := Lib.hid (T1.out (HW.out hw))
        go_wp2_with (first | (go_at_call 49; (first | (with_reducible refine (C0.out _ S).mono ?_)); rintro e w1 ⟨rfl, S, m1⟩; have M := M.trans m1; clear m1) | (go_at_call 91; (first | (with_reducible refine (T0.out _ S).mono ?_)); rintro e w1 ⟨rfl, S, m1⟩; have M := M.trans m1; clear m1) | (go_at_call 193; ((with_reducible refine (hex_any _ _).mono ?_); rintro e w1 ⟨rfl, rfl⟩)) | (go_at_call 85; ((with_reducible refine (white_any _ _).mono ?_); rintro e w1 ⟨rfl, rfl⟩)) | (go_at_call 194; ((with_reducible refine (is_any _ _).mono ?_); rintro e w1 ⟨rfl, rfl⟩)))
        go_ret
        exact ⟨ret_int (by rw [HM.out, HV2.out]), by rw [HM.out, HK.out]; simpa using S, M⟩
      ·have HV2 : Hid (Tk.meantN n = n) := Lib.hid (by unfold Tk.meantN; rw [if_neg (by rw [hi]; simp [n0])])
       cases hw : Ru.whiB a
       ·rw [hw] at HK
        go_wp2_with (first | (go_at_call 49; (first | (with_reducible refine (C0.out _ S).mono ?_)); rintro e w1 ⟨rfl, S, m1⟩; have M := M.trans m1; clear m1) | (go_at_call 91; (first | (with_reducible refine (T0.out _ S).mono ?_)); rintro e w1 ⟨rfl, S, m1⟩; have M := M.trans m1; clear m1) | (go_at_call 193; ((with_reducible refine (hex_any _ _).mono ?_); rintro e w1 ⟨rfl, rfl⟩)) | (go_at_call 85; ((with_reducible refine (white_any _ _).mono ?_); rintro e w1 ⟨rfl, rfl⟩)) | (go_at_call 194; ((with_reducible refine (is_any _ _).mono ?_); rintro e w1 ⟨rfl, rfl⟩)))
        go_ret
        exact ⟨ret_int (by rw [HM.out, HV2.out]), by rw [HM.out, HK.out]; simpa using S, M⟩
       ·rw [hw] at HK
        have T0 := Lib.hid (T1.out (HW.out hw))
        go_wp2_with (first | (go_at_call 49; (first | (with_reducible refine (C0.out _ S).mono ?_)); rintro e w1 ⟨rfl, S, m1⟩; have M := M.trans m1; clear m1) | (go_at_call 91; (first | (with_reducible refine (T0.out _ S).mono ?_)); rintro e w1 ⟨rfl, S, m1⟩; have M := M.trans m1; clear m1) | (go_at_call 193; ((with_reducible refine (hex_any _ _).mono ?_); rintro e w1 ⟨rfl, rfl⟩)) | (go_at_call 85; ((with_reducible refine (white_any _ _).mono ?_); rintro e w1 ⟨rfl, rfl⟩)) | (go_at_call 194; ((with_reducible refine (is_any _ _).mono ?_); rintro e w1 ⟨rfl, rfl⟩)))
        go_ret
        exact ⟨ret_int (by rw [HM.out, HV2.out]), by rw [HM.out, HK.out]; simpa using S, M⟩
   ·have HE : Hid (Tk.hexR 6 l (k + 1) 0 = (n, j)) := Lib.hid (by rw [<- HR.out, show 6 - m = 0 by omega]; rfl)
    have HM := Lib.hid (Tk.meant_some HE.out (by omega))
    have HK : Hid (Tk.meantK l j = if Ru.whiB (Tk.at' l j) = true then j + 1 else j) := Lib.hid rfl
    have HW : Hid (Ru.whiB (Tk.at' l j) = true -> j < l.length) := Lib.hid Tk.whi_lt
    clear HE HR HN16 HH0
    have T1 : Hid (j < l.length -> ∀ w', Sc w' g A cap l pl j -> Calls Tryz.prog 91 #[.pointer (some ⟨g, 0, none⟩)] w' (Stp g A cap l pl (j + 1) (.int .i32 (Tk.at' l j)) w')) := Lib.hid fun hlt w' h => take_in hm hlt h
    generalize Tk.at' l j = a at *
    by_cases n0 : n = 0
    ·subst n0
     have HV2 : Hid (Tk.meantN 0 = 65533) := Lib.hid rfl
     cases hw : Ru.whiB a
     ·rw [hw] at HK
      go_wp2_with (first | (go_at_call 49; (first | (with_reducible refine (C0.out _ S).mono ?_)); rintro e w1 ⟨rfl, S, m1⟩; have M := M.trans m1; clear m1) | (go_at_call 91; (first | (with_reducible refine (T0.out _ S).mono ?_)); rintro e w1 ⟨rfl, S, m1⟩; have M := M.trans m1; clear m1) | (go_at_call 193; ((with_reducible refine (hex_any _ _).mono ?_); rintro e w1 ⟨rfl, rfl⟩)) | (go_at_call 85; ((with_reducible refine (white_any _ _).mono ?_); rintro e w1 ⟨rfl, rfl⟩)) | (go_at_call 194; ((with_reducible refine (is_any _ _).mono ?_); rintro e w1 ⟨rfl, rfl⟩)))
      go_ret
      exact ⟨ret_int (by rw [HM.out]; exact HV2.out.symm), by rw [HM.out, HK.out]; simpa using S, M⟩
     ·rw [hw] at HK
      have T0 := Lib.hid (T1.out (HW.out hw))
      go_wp2_with (first | (go_at_call 49; (first | (with_reducible refine (C0.out _ S).mono ?_)); rintro e w1 ⟨rfl, S, m1⟩; have M := M.trans m1; clear m1) | (go_at_call 91; (first | (with_reducible refine (T0.out _ S).mono ?_)); rintro e w1 ⟨rfl, S, m1⟩; have M := M.trans m1; clear m1) | (go_at_call 193; ((with_reducible refine (hex_any _ _).mono ?_); rintro e w1 ⟨rfl, rfl⟩)) | (go_at_call 85; ((with_reducible refine (white_any _ _).mono ?_); rintro e w1 ⟨rfl, rfl⟩)) | (go_at_call 194; ((with_reducible refine (is_any _ _).mono ?_); rintro e w1 ⟨rfl, rfl⟩)))
      go_ret
      exact ⟨ret_int (by rw [HM.out]; exact HV2.out.symm), by rw [HM.out, HK.out]; simpa using S, M⟩
    ·have en : ((n : Int) == 0) = false := Ru.eq_f n0
     cases hi : Ru.isB n
     ·have HV2 : Hid (Tk.meantN n = 65533) := Lib.hid (by unfold Tk.meantN; rw [if_pos (Or.inr hi)])
      cases hw : Ru.whiB a
      ·rw [hw] at HK
       go_wp2_with (first | (go_at_call 49; (first | (with_reducible refine (C0.out _ S).mono ?_)); rintro e w1 ⟨rfl, S, m1⟩; have M := M.trans m1; clear m1) | (go_at_call 91; (first | (with_reducible refine (T0.out _ S).mono ?_)); rintro e w1 ⟨rfl, S, m1⟩; have M := M.trans m1; clear m1) | (go_at_call 193; ((with_reducible refine (hex_any _ _).mono ?_); rintro e w1 ⟨rfl, rfl⟩)) | (go_at_call 85; ((with_reducible refine (white_any _ _).mono ?_); rintro e w1 ⟨rfl, rfl⟩)) | (go_at_call 194; ((with_reducible refine (is_any _ _).mono ?_); rintro e w1 ⟨rfl, rfl⟩)))
       go_ret
       exact ⟨ret_int (by rw [HM.out, HV2.out]), by rw [HM.out, HK.out]; simpa using S, M⟩
      ·rw [hw] at HK
       have T0 := Lib.hid (T1.out (HW.out hw))
       go_wp2_with (first | (go_at_call 49; (first | (with_reducible refine (C0.out _ S).mono ?_)); rintro e w1 ⟨rfl, S, m1⟩; have M := M.trans m1; clear m1) | (go_at_call 91; (first | (with_reducible refine (T0.out _ S).mono ?_)); rintro e w1 ⟨rfl, S, m1⟩; have M := M.trans m1; clear m1) | (go_at_call 193; ((with_reducible refine (hex_any _ _).mono ?_); rintro e w1 ⟨rfl, rfl⟩)) | (go_at_call 85; ((with_reducible refine (white_any _ _).mono ?_); rintro e w1 ⟨rfl, rfl⟩)) | (go_at_call 194; ((with_reducible refine (is_any _ _).mono ?_); rintro e w1 ⟨rfl, rfl⟩)))
       go_ret
       exact ⟨ret_int (by rw [HM.out, HV2.out]), by rw [HM.out, HK.out]; simpa using S, M⟩
     ·have HV2 : Hid (Tk.meantN n = n) := Lib.hid (by unfold Tk.meantN; rw [if_neg (by rw [hi]; simp [n0])])
      cases hw : Ru.whiB a
      ·rw [hw] at HK
       go_wp2_with (first | (go_at_call 49; (first | (with_reducible refine (C0.out _ S).mono ?_)); rintro e w1 ⟨rfl, S, m1⟩; have M := M.trans m1; clear m1) | (go_at_call 91; (first | (with_reducible refine (T0.out _ S).mono ?_)); rintro e w1 ⟨rfl, S, m1⟩; have M := M.trans m1; clear m1) | (go_at_call 193; ((with_reducible refine (hex_any _ _).mono ?_); rintro e w1 ⟨rfl, rfl⟩)) | (go_at_call 85; ((with_reducible refine (white_any _ _).mono ?_); rintro e w1 ⟨rfl, rfl⟩)) | (go_at_call 194; ((with_reducible refine (is_any _ _).mono ?_); rintro e w1 ⟨rfl, rfl⟩)))
       go_ret
       exact ⟨ret_int (by rw [HM.out, HV2.out]), by rw [HM.out, HK.out]; simpa using S, M⟩
      ·rw [hw] at HK
       have T0 := Lib.hid (T1.out (HW.out hw))
       go_wp2_with (first | (go_at_call 49; (first | (with_reducible refine (C0.out _ S).mono ?_)); rintro e w1 ⟨rfl, S, m1⟩; have M := M.trans m1; clear m1) | (go_at_call 91; (first | (with_reducible refine (T0.out _ S).mono ?_)); rintro e w1 ⟨rfl, S, m1⟩; have M := M.trans m1; clear m1) | (go_at_call 193; ((with_reducible refine (hex_any _ _).mono ?_); rintro e w1 ⟨rfl, rfl⟩)) | (go_at_call 85; ((with_reducible refine (white_any _ _).mono ?_); rintro e w1 ⟨rfl, rfl⟩)) | (go_at_call 194; ((with_reducible refine (is_any _ _).mono ?_); rintro e w1 ⟨rfl, rfl⟩)))
       go_ret
       exact ⟨ret_int (by rw [HM.out, HV2.out]), by rw [HM.out, HK.out]; simpa using S, M⟩
 ·have hh' : Ru.hexV (Tk.at' l (k + 1)) < 0 := by omega
  have HM : Hid (Tk.meant l k = (Tk.at' l (k + 1), k + 2)) := Lib.hid (by
   rw [Tk.at_in hk]
   exact Tk.meant_none (n := 0) (Tk.hexR_no (by rw [show k + 1 = k + 1 from rfl]; omega)))
  have T1 : Hid (∀ w', Sc w' g A cap l pl (k + 1) -> Calls Tryz.prog 91 #[.pointer (some ⟨g, 0, none⟩)] w' (Stp g A cap l pl (k + 2) (.int .i32 (Tk.at' l (k + 1))) w')) := Lib.hid fun w' h => take_in hm hk h
  clear hh
  generalize Tk.at' l k = y at *
  generalize Tk.at' l (k + 1) = y1 at *
  go_enter Tryz.func154, Tryz.ntmps154
  go_wp2_with (first | (go_at_call 49; (first | (with_reducible refine (C0.out _ S).mono ?_)); rintro e w1 ⟨rfl, S, m1⟩; have M := M.trans m1; clear m1) | (go_at_call 91; (first | (with_reducible refine (T0.out _ S).mono ?_) | (with_reducible refine (T1.out _ S).mono ?_)); rintro e w1 ⟨rfl, S, m1⟩; have M := M.trans m1; clear m1) | (go_at_call 193; ((with_reducible refine (hex_any _ _).mono ?_); rintro e w1 ⟨rfl, rfl⟩)) | (go_at_call 85; ((with_reducible refine (white_any _ _).mono ?_); rintro e w1 ⟨rfl, rfl⟩)) | (go_at_call 194; ((with_reducible refine (is_any _ _).mono ?_); rintro e w1 ⟨rfl, rfl⟩)))
  go_ret
  exact ⟨ret_int (by rw [HM.out]), by rw [HM.out]; exact S, M⟩
end
end Go.Proofs.YtllmjggejbdpcaaGreatDoor
