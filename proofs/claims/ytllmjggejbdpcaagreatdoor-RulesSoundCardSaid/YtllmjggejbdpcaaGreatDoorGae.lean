/-
  The walk of print's fits.
-/
import Derived.Test.YtllmjggejbdpcaaGreatDoorGad
import Derived.Deep.QuietTactic
import Derived.BigQuiet
import Derived.Test.YtllmjggejbdpcaaGreatDoorGaa
import Derived.ProofKit
import Derived.OpenShut
import Derived.ShutString
import Derived.ChangeSame
import Derived.Lib.SmallJoins
import Derived.Lib.LaidTab
import Derived.Deep.Slices
import Derived.Deep.SlicePairs
import Derived.Deep.Strs
import Derived.DataShut
import Derived.Lib.LaidU8T
import Derived.Test.YtllmjggejbdpcaaGreatDoorGac
import Derived.Laws.StructEq
import Derived.Deep.RegionWith
import Derived.IntWalk
import Derived.Lib.Hide
import Derived.Deep.Cut
import Derived.Deep.CutRange
import Derived.Deep.DeepCutAuto
import Derived.LoopTactic
set_option maxHeartbeats 16000000
set_option maxRecDepth 100000
namespace Go.Proofs.YtllmjggejbdpcaaGreatDoor
open Go.RowKit
abbrev kindV (nb : Bool) (may : Nat) (a : ByteArray) (f : Fn) (cs cs2 : Array Value) (z : ByteArray) : Value := .agg #[.bool nb, fnV may, .string a, .func f cs cs2, .string z]
theorem below_two {w w1 : World} {o p : Obj} (h : Below ((w.alloc o).alloc p).heap.size ((w.alloc o).alloc p) w1) : Below w.heap.size w w1 :=
 (((Below.refl _ _).alloc (Nat.le_refl _) o).alloc (by simp) p).trans (h.mono (by simp; omega))
theorem two_below (w : World) (o p : Obj) : Below w.heap.size w ((w.alloc o).alloc p) := ((Below.refl _ _).alloc (Nat.le_refl _) o).alloc (by simp) p
theorem two_cells {w w1 : World} {o : Obj} {x y z : Value} {E : TypeId} (h : Below ((w.alloc o).alloc (.cells #[x, y, z] E)).heap.size ((w.alloc o).alloc (.cells #[x, y, z] E)) w1) : w1.cell? ⟨w.heap.size + 1, 2, none⟩ = some z := by
 have hs : (w.alloc o).heap.size = w.heap.size + 1 := by simp
 rw [h.cell (p := ⟨w.heap.size + 1, 2, none⟩) (by simp), <- hs, World.cell?_alloc_mark]; rfl
theorem two_cell0 {w w1 : World} {p : Obj} {x0 x1 x2 x3 x4 : Value} {E : TypeId} (h : Below ((w.alloc (.cells #[x0, x1, x2, x3, x4] E)).alloc p).heap.size ((w.alloc (.cells #[x0, x1, x2, x3, x4] E)).alloc p) w1) : w1.cell? ⟨w.heap.size, 0, none⟩ = some x0 := by
 rw [h.cell (p := ⟨w.heap.size, 0, none⟩) (by simp; omega), World.cell?_alloc_lt _ _ _ (by simp), World.cell?_alloc_mark]; rfl
theorem nil_fits (a z : ByteArray) (kd n : Int) (t : ByteArray) (w : World) :
 Calls Tryz.prog 119 #[.agg #[.bool false, .nilFunc, .string a, .nilFunc, .string z], tokV kd t n] w (Bo false w) := by
 have he : ∀ W, (binOp .eql 108 .nilFunc .nilFunc).run Tryz.prog W = .ok (.bool true) W := fun _ => by kernel_rfl
 unfold tokV
 go_enter Tryz.func119, Tryz.ntmps119
 go_wp2_with fail
 go_ret
 exact ⟨rfl, two_below _ _ _⟩
theorem fits_empty0 (a z : ByteArray) (f : Fn) (cs cs2 : Array Value) (kd n : Int) (t : ByteArray) (b : Bool) (hb : b = true ↔ t = ⟨#[]⟩) (w : World) :
 Calls Tryz.prog 119 #[kindV false 113 a f cs cs2 z, tokV kd t n] w (Bo (b && decide (n = 0)) w) := by
 have C := Lib.hid (fun (w0 : World) (hw : Below w.heap.size w w0) => (fun w hw => empty_any t b hb w : ∀ (w1 : World), Below w.heap.size w w1 -> Calls Tryz.prog 113 #[.string t] w1 (Bo b w1)) w0 hw)
 have he : ∀ W, (binOp .eql 108 (fnV 113) .nilFunc).run Tryz.prog W = .ok (.bool false) W := fun _ => by kernel_rfl
 unfold tokV
 clear hb
 cases b
 ·go_enter Tryz.func119, Tryz.ntmps119
  go_wp2_with (go_at_call 113; ((with_reducible refine (C.out _ (two_below _ _ _)).mono ?_); rintro e w1 ⟨rfl, b1⟩; have c0 := two_cell0 b1; have c2 := two_cells b1))
  go_ret
  exact ⟨rfl, below_two b1⟩
 ·by_cases hn : n = 0
  ·have q := Ru.eq_t hn
   rw [decide_eq_true hn]
   clear hn
   go_enter Tryz.func119, Tryz.ntmps119
   go_wp2_with (go_at_call 113; ((with_reducible refine (C.out _ (two_below _ _ _)).mono ?_); rintro e w1 ⟨rfl, b1⟩; have c0 := two_cell0 b1; have c2 := two_cells b1))
   go_ret
   exact ⟨rfl, below_two b1⟩
  ·have q := Ru.eq_f hn
   rw [decide_eq_false hn]
   clear hn
   go_enter Tryz.func119, Tryz.ntmps119
   go_wp2_with (go_at_call 113; ((with_reducible refine (C.out _ (two_below _ _ _)).mono ?_); rintro e w1 ⟨rfl, b1⟩; have c0 := two_cell0 b1; have c2 := two_cells b1))
   go_ret
   exact ⟨rfl, below_two b1⟩
theorem fits_named0 (a z : ByteArray) (f : Fn) (cs cs2 : Array Value) (kd n : Int) (t : ByteArray) (b : Bool) (hb : b = true ↔ (t ≠ ⟨#[]⟩ /\ Pr.Snd t)) (hm : t.size <= 9223372036854775807) (w : World) (hT : UTab w.heap.size w) :
 Calls Tryz.prog 119 #[kindV false 114 a f cs cs2 z, tokV kd t n] w (Bo (b && decide (n = 0)) w) := by
 have C := Lib.hid (fun (w0 : World) (hw : Below w.heap.size w w0) => (fun w hw => named_any t b hb hm w (hT.next hw) : ∀ (w1 : World), Below w.heap.size w w1 -> Calls Tryz.prog 114 #[.string t] w1 (Bo b w1)) w0 hw)
 have he : ∀ W, (binOp .eql 108 (fnV 114) .nilFunc).run Tryz.prog W = .ok (.bool false) W := fun _ => by kernel_rfl
 unfold tokV
 clear hb hT
 cases b
 ·go_enter Tryz.func119, Tryz.ntmps119
  go_wp2_with (go_at_call 114; ((with_reducible refine (C.out _ (two_below _ _ _)).mono ?_); rintro e w1 ⟨rfl, b1⟩; have c0 := two_cell0 b1; have c2 := two_cells b1))
  go_ret
  exact ⟨rfl, below_two b1⟩
 ·by_cases hn : n = 0
  ·have q := Ru.eq_t hn
   rw [decide_eq_true hn]
   clear hn
   go_enter Tryz.func119, Tryz.ntmps119
   go_wp2_with (go_at_call 114; ((with_reducible refine (C.out _ (two_below _ _ _)).mono ?_); rintro e w1 ⟨rfl, b1⟩; have c0 := two_cell0 b1; have c2 := two_cells b1))
   go_ret
   exact ⟨rfl, below_two b1⟩
  ·have q := Ru.eq_f hn
   rw [decide_eq_false hn]
   clear hn
   go_enter Tryz.func119, Tryz.ntmps119
   go_wp2_with (go_at_call 114; ((with_reducible refine (C.out _ (two_below _ _ _)).mono ?_); rintro e w1 ⟨rfl, b1⟩; have c0 := two_cell0 b1; have c2 := two_cells b1))
   go_ret
   exact ⟨rfl, below_two b1⟩
theorem fits_sound0 (a z : ByteArray) (f : Fn) (cs cs2 : Array Value) (kd n : Int) (t : ByteArray) (b : Bool) (hb : b = true ↔ Pr.Snd t) (hm : t.size <= 9223372036854775807) (w : World) (hT : UTab w.heap.size w) :
 Calls Tryz.prog 119 #[kindV false 115 a f cs cs2 z, tokV kd t n] w (Bo (b && decide (n = 0)) w) := by
 have C := Lib.hid (fun (w0 : World) (hw : Below w.heap.size w w0) => (fun w hw => sound_any t b hb hm w (hT.next hw) : ∀ (w1 : World), Below w.heap.size w w1 -> Calls Tryz.prog 115 #[.string t] w1 (Bo b w1)) w0 hw)
 have he : ∀ W, (binOp .eql 108 (fnV 115) .nilFunc).run Tryz.prog W = .ok (.bool false) W := fun _ => by kernel_rfl
 unfold tokV
 clear hb hT
 cases b
 ·go_enter Tryz.func119, Tryz.ntmps119
  go_wp2_with (go_at_call 115; ((with_reducible refine (C.out _ (two_below _ _ _)).mono ?_); rintro e w1 ⟨rfl, b1⟩; have c0 := two_cell0 b1; have c2 := two_cells b1))
  go_ret
  exact ⟨rfl, below_two b1⟩
 ·by_cases hn : n = 0
  ·have q := Ru.eq_t hn
   rw [decide_eq_true hn]
   clear hn
   go_enter Tryz.func119, Tryz.ntmps119
   go_wp2_with (go_at_call 115; ((with_reducible refine (C.out _ (two_below _ _ _)).mono ?_); rintro e w1 ⟨rfl, b1⟩; have c0 := two_cell0 b1; have c2 := two_cells b1))
   go_ret
   exact ⟨rfl, below_two b1⟩
  ·have q := Ru.eq_f hn
   rw [decide_eq_false hn]
   clear hn
   go_enter Tryz.func119, Tryz.ntmps119
   go_wp2_with (go_at_call 115; ((with_reducible refine (C.out _ (two_below _ _ _)).mono ?_); rintro e w1 ⟨rfl, b1⟩; have c0 := two_cell0 b1; have c2 := two_cells b1))
   go_ret
   exact ⟨rfl, below_two b1⟩
theorem fits_delimits0 (a z : ByteArray) (f : Fn) (cs cs2 : Array Value) (kd n : Int) (t : ByteArray) (b : Bool) (hb : b = true ↔ Pr.DelT t) (hm : t.size <= 9223372036854775807) (w : World) (hT : UTab w.heap.size w) :
 Calls Tryz.prog 119 #[kindV false 116 a f cs cs2 z, tokV kd t n] w (Bo (b && decide (n = 0)) w) := by
 have C := Lib.hid (fun (w0 : World) (hw : Below w.heap.size w w0) => (fun w hw => delimits_any t b hb hm w (hT.next hw) : ∀ (w1 : World), Below w.heap.size w w1 -> Calls Tryz.prog 116 #[.string t] w1 (Bo b w1)) w0 hw)
 have he : ∀ W, (binOp .eql 108 (fnV 116) .nilFunc).run Tryz.prog W = .ok (.bool false) W := fun _ => by kernel_rfl
 unfold tokV
 clear hb hT
 cases b
 ·go_enter Tryz.func119, Tryz.ntmps119
  go_wp2_with (go_at_call 116; ((with_reducible refine (C.out _ (two_below _ _ _)).mono ?_); rintro e w1 ⟨rfl, b1⟩; have c0 := two_cell0 b1; have c2 := two_cells b1))
  go_ret
  exact ⟨rfl, below_two b1⟩
 ·by_cases hn : n = 0
  ·have q := Ru.eq_t hn
   rw [decide_eq_true hn]
   clear hn
   go_enter Tryz.func119, Tryz.ntmps119
   go_wp2_with (go_at_call 116; ((with_reducible refine (C.out _ (two_below _ _ _)).mono ?_); rintro e w1 ⟨rfl, b1⟩; have c0 := two_cell0 b1; have c2 := two_cells b1))
   go_ret
   exact ⟨rfl, below_two b1⟩
  ·have q := Ru.eq_f hn
   rw [decide_eq_false hn]
   clear hn
   go_enter Tryz.func119, Tryz.ntmps119
   go_wp2_with (go_at_call 116; ((with_reducible refine (C.out _ (two_below _ _ _)).mono ?_); rintro e w1 ⟨rfl, b1⟩; have c0 := two_cell0 b1; have c2 := two_cells b1))
   go_ret
   exact ⟨rfl, below_two b1⟩
theorem fits_opens0 (a z : ByteArray) (f : Fn) (cs cs2 : Array Value) (kd n : Int) (t : ByteArray) (b : Bool) (hb : b = true ↔ (t = ⟨#[40]⟩ ∨ t = ⟨#[91]⟩ ∨ t = ⟨#[123]⟩)) (w : World) :
 Calls Tryz.prog 119 #[kindV false 117 a f cs cs2 z, tokV kd t n] w (Bo (b && decide (n = 0)) w) := by
 have C := Lib.hid (fun (w0 : World) (hw : Below w.heap.size w w0) => (fun w hw => popens_any t b hb w : ∀ (w1 : World), Below w.heap.size w w1 -> Calls Tryz.prog 117 #[.string t] w1 (Bo b w1)) w0 hw)
 have he : ∀ W, (binOp .eql 108 (fnV 117) .nilFunc).run Tryz.prog W = .ok (.bool false) W := fun _ => by kernel_rfl
 unfold tokV
 clear hb
 cases b
 ·go_enter Tryz.func119, Tryz.ntmps119
  go_wp2_with (go_at_call 117; ((with_reducible refine (C.out _ (two_below _ _ _)).mono ?_); rintro e w1 ⟨rfl, b1⟩; have c0 := two_cell0 b1; have c2 := two_cells b1))
  go_ret
  exact ⟨rfl, below_two b1⟩
 ·by_cases hn : n = 0
  ·have q := Ru.eq_t hn
   rw [decide_eq_true hn]
   clear hn
   go_enter Tryz.func119, Tryz.ntmps119
   go_wp2_with (go_at_call 117; ((with_reducible refine (C.out _ (two_below _ _ _)).mono ?_); rintro e w1 ⟨rfl, b1⟩; have c0 := two_cell0 b1; have c2 := two_cells b1))
   go_ret
   exact ⟨rfl, below_two b1⟩
  ·have q := Ru.eq_f hn
   rw [decide_eq_false hn]
   clear hn
   go_enter Tryz.func119, Tryz.ntmps119
   go_wp2_with (go_at_call 117; ((with_reducible refine (C.out _ (two_below _ _ _)).mono ?_); rintro e w1 ⟨rfl, b1⟩; have c0 := two_cell0 b1; have c2 := two_cells b1))
   go_ret
   exact ⟨rfl, below_two b1⟩
theorem fits_closes0 (a z : ByteArray) (f : Fn) (cs cs2 : Array Value) (kd n : Int) (t : ByteArray) (b : Bool) (hb : b = true ↔ (t = ⟨#[41]⟩ ∨ t = ⟨#[93]⟩ ∨ t = ⟨#[125]⟩)) (w : World) :
 Calls Tryz.prog 119 #[kindV false 118 a f cs cs2 z, tokV kd t n] w (Bo (b && decide (n = 0)) w) := by
 have C := Lib.hid (fun (w0 : World) (hw : Below w.heap.size w w0) => (fun w hw => closes_any t b hb w : ∀ (w1 : World), Below w.heap.size w w1 -> Calls Tryz.prog 118 #[.string t] w1 (Bo b w1)) w0 hw)
 have he : ∀ W, (binOp .eql 108 (fnV 118) .nilFunc).run Tryz.prog W = .ok (.bool false) W := fun _ => by kernel_rfl
 unfold tokV
 clear hb
 cases b
 ·go_enter Tryz.func119, Tryz.ntmps119
  go_wp2_with (go_at_call 118; ((with_reducible refine (C.out _ (two_below _ _ _)).mono ?_); rintro e w1 ⟨rfl, b1⟩; have c0 := two_cell0 b1; have c2 := two_cells b1))
  go_ret
  exact ⟨rfl, below_two b1⟩
 ·by_cases hn : n = 0
  ·have q := Ru.eq_t hn
   rw [decide_eq_true hn]
   clear hn
   go_enter Tryz.func119, Tryz.ntmps119
   go_wp2_with (go_at_call 118; ((with_reducible refine (C.out _ (two_below _ _ _)).mono ?_); rintro e w1 ⟨rfl, b1⟩; have c0 := two_cell0 b1; have c2 := two_cells b1))
   go_ret
   exact ⟨rfl, below_two b1⟩
  ·have q := Ru.eq_f hn
   rw [decide_eq_false hn]
   clear hn
   go_enter Tryz.func119, Tryz.ntmps119
   go_wp2_with (go_at_call 118; ((with_reducible refine (C.out _ (two_below _ _ _)).mono ?_); rintro e w1 ⟨rfl, b1⟩; have c0 := two_cell0 b1; have c2 := two_cells b1))
   go_ret
   exact ⟨rfl, below_two b1⟩
theorem fits_empty1 (a z : ByteArray) (f : Fn) (cs cs2 : Array Value) (kd n : Int) (t : ByteArray) (b : Bool) (hb : b = true ↔ t = ⟨#[]⟩) (w : World) :
 Calls Tryz.prog 119 #[kindV true 113 a f cs cs2 z, tokV kd t n] w (Bo (b && decide (n = Fx.stop n)) w) := by
 have C := Lib.hid (fun (w0 : World) (hw : Below w.heap.size w w0) => (fun w hw => empty_any t b hb w : ∀ (w1 : World), Below w.heap.size w w1 -> Calls Tryz.prog 113 #[.string t] w1 (Bo b w1)) w0 hw)
 have he : ∀ W, (binOp .eql 108 (fnV 113) .nilFunc).run Tryz.prog W = .ok (.bool false) W := fun _ => by kernel_rfl
 unfold tokV
 clear hb
 cases b
 ·go_enter Tryz.func119, Tryz.ntmps119
  go_wp2_with (go_at_call 113; ((with_reducible refine (C.out _ (two_below _ _ _)).mono ?_); rintro e w1 ⟨rfl, b1⟩; have c0 := two_cell0 b1; have c2 := two_cells b1))
  go_ret
  exact ⟨rfl, below_two b1⟩
 ·have CS := Lib.hid (fun w => stop_any n w)
  generalize Fx.stop n = sn at *
  by_cases hn : n = sn
  ·have q := Ru.eq_t hn
   rw [decide_eq_true hn]
   clear hn
   go_enter Tryz.func119, Tryz.ntmps119
   go_wp2_with (go_at_call 113; ((with_reducible refine (C.out _ (two_below _ _ _)).mono ?_); rintro e w1 ⟨rfl, b1⟩; have c0 := two_cell0 b1; have c2 := two_cells b1))
   go_quiet ((go_at_call 173; exact Calls.quiet_of_same ((CS.out _).mono fun _ _ h => ⟨h.1, h.2.symm⟩)))
   go_wp2_with fail
   go_ret
   exact ⟨rfl, below_drewN (below_two b1) _⟩
  ·have q := Ru.eq_f hn
   rw [decide_eq_false hn]
   clear hn
   go_enter Tryz.func119, Tryz.ntmps119
   go_wp2_with (go_at_call 113; ((with_reducible refine (C.out _ (two_below _ _ _)).mono ?_); rintro e w1 ⟨rfl, b1⟩; have c0 := two_cell0 b1; have c2 := two_cells b1))
   go_quiet ((go_at_call 173; exact Calls.quiet_of_same ((CS.out _).mono fun _ _ h => ⟨h.1, h.2.symm⟩)))
   go_wp2_with fail
   go_ret
   exact ⟨rfl, below_drewN (below_two b1) _⟩
theorem fits_named1 (a z : ByteArray) (f : Fn) (cs cs2 : Array Value) (kd n : Int) (t : ByteArray) (b : Bool) (hb : b = true ↔ (t ≠ ⟨#[]⟩ /\ Pr.Snd t)) (hm : t.size <= 9223372036854775807) (w : World) (hT : UTab w.heap.size w) :
 Calls Tryz.prog 119 #[kindV true 114 a f cs cs2 z, tokV kd t n] w (Bo (b && decide (n = Fx.stop n)) w) := by
 have C := Lib.hid (fun (w0 : World) (hw : Below w.heap.size w w0) => (fun w hw => named_any t b hb hm w (hT.next hw) : ∀ (w1 : World), Below w.heap.size w w1 -> Calls Tryz.prog 114 #[.string t] w1 (Bo b w1)) w0 hw)
 have he : ∀ W, (binOp .eql 108 (fnV 114) .nilFunc).run Tryz.prog W = .ok (.bool false) W := fun _ => by kernel_rfl
 unfold tokV
 clear hb hT
 cases b
 ·go_enter Tryz.func119, Tryz.ntmps119
  go_wp2_with (go_at_call 114; ((with_reducible refine (C.out _ (two_below _ _ _)).mono ?_); rintro e w1 ⟨rfl, b1⟩; have c0 := two_cell0 b1; have c2 := two_cells b1))
  go_ret
  exact ⟨rfl, below_two b1⟩
 ·have CS := Lib.hid (fun w => stop_any n w)
  generalize Fx.stop n = sn at *
  by_cases hn : n = sn
  ·have q := Ru.eq_t hn
   rw [decide_eq_true hn]
   clear hn
   go_enter Tryz.func119, Tryz.ntmps119
   go_wp2_with (go_at_call 114; ((with_reducible refine (C.out _ (two_below _ _ _)).mono ?_); rintro e w1 ⟨rfl, b1⟩; have c0 := two_cell0 b1; have c2 := two_cells b1))
   go_quiet ((go_at_call 173; exact Calls.quiet_of_same ((CS.out _).mono fun _ _ h => ⟨h.1, h.2.symm⟩)))
   go_wp2_with fail
   go_ret
   exact ⟨rfl, below_drewN (below_two b1) _⟩
  ·have q := Ru.eq_f hn
   rw [decide_eq_false hn]
   clear hn
   go_enter Tryz.func119, Tryz.ntmps119
   go_wp2_with (go_at_call 114; ((with_reducible refine (C.out _ (two_below _ _ _)).mono ?_); rintro e w1 ⟨rfl, b1⟩; have c0 := two_cell0 b1; have c2 := two_cells b1))
   go_quiet ((go_at_call 173; exact Calls.quiet_of_same ((CS.out _).mono fun _ _ h => ⟨h.1, h.2.symm⟩)))
   go_wp2_with fail
   go_ret
   exact ⟨rfl, below_drewN (below_two b1) _⟩
theorem Bw.block {b k : Nat} {w w1 : World} {cs : Array Value} {E : TypeId} (h : Bw b w w1) (hk : w.heap[k]? = some (.cells cs E (0, 0))) (hb : k ≠ b) (hE : E ≠ 5) : w1.heap[k]? = some (.cells cs E (0, 0)) :=
 h.2 k _ hk (by simpa using hb) (fun c fz e => by injection e with _ e _; exact hE e)
end Go.Proofs.YtllmjggejbdpcaaGreatDoor
namespace Go.Proofs.YtllmjggejbdpcaaGreatDoor
open Go.RowKit Go.Maps
def kindAt (c : Nat) (kd : Int) : Value := if 1 <= kd /\ kd <= 16 then kval c kd.toNat else kval c 0
theorem zero_kind (w : World) : (zeroValue 110).run Tryz.prog w = .ok (kval 0 0) w := by kernel_rfl
theorem kinds_look {w : World} {M c : Nat} (h : Kinds w M c) (kd : Int) (hk : I64 kd) : (Instr.lookup 97 (.map (some M)) (.int .i64 kd) false).run Tryz.prog w = .ok (kindAt c kd) w := by
 obtain ⟨n, hm⟩ := h.m
 have K := int_keyed (P := Tryz.prog) Tryz.underlying3
 have hw : (Lit.int .i64 kd).wf = true := WalkArith.wf_i64 hk
 obtain ⟨v, ps, hrun, hv⟩ := hm.lookup K Tryz.underlying97 (zero_kind w) (zd := .held (kval 0 0)) (zp := []) rfl (keyOf_int_mk Tryz.underlying3 hw)
 rw [hrun]
 have e : v = kindAt c kd := by
  rw [kD_at] at hv
  unfold rdV at hv
  simp only [Option.some.injEq, Prod.mk.injEq] at hv
  have hv := hv.1
  unfold kindAt
  by_cases h : 1 <= kd /\ kd <= 16
  ·rw [if_pos (by omega)] at hv
   rw [if_pos h]
   injection hv
  ·rw [if_neg (by omega)] at hv
   rw [if_neg h]
   injection hv
 rw [e]
theorem Kinds.below {w w1 : World} {M c B : Nat} (h : Kinds w M c) (hb : Below B w w1) (hM : M < B) (hc : c < B) : Kinds w1 M c := by
 obtain ⟨⟨n, es, clock, hm, r⟩, hn⟩ := h
 exact ⟨⟨n, es, clock, (hb.block M hM).trans hm, r⟩, (hb.block c hc).trans hn⟩
namespace Pr
open Ru Tk
def OneU (u : Tok) : Prop := ∃ p : PT, u = toTok p /\ One p
theorem oneU_iff (k n : Int) (t : ByteArray) : OneU (k, t, n) ↔ ∃ cs, Txt t cs /\ Ok cs /\ Kd k cs n := by
 constructor
 ·rintro ⟨⟨k', l, n'⟩, e, ho, hk⟩
  unfold toTok at e
  simp only [Prod.mk.injEq] at e
  obtain ⟨rfl, rfl, rfl⟩ := e
  exact ⟨l, txt_str fun c hc => (ho c hc).1, ho, hk⟩
 ·rintro ⟨cs, hx, ho, hk⟩
  exact ⟨(k, cs, n), by unfold toTok; simp only; rw [hx.str], ho, hk⟩
theorem txt_empty {t : ByteArray} : Txt t [] ↔ t = ⟨#[]⟩ := by
 constructor
 ·intro h; exact h.str
 ·rintro rfl; exact ⟨rfl, fun c hc => by cases hc⟩
theorem txt_asc {t : ByteArray} {c : Int} (h0 : 0 <= c) (h1 : c <= 127) : Txt t [c] ↔ bs t = [c] := by
 have e : wr [c] = [c] := wr_asc' (fun d hd => by rw [List.mem_singleton] at hd; omega)
 constructor
 ·intro h; rw [h.1, e]
 ·intro h; exact ⟨by rw [h, e], fun d hd => by rw [List.mem_singleton] at hd; subst hd; unfold Is; omega⟩
theorem ok_nil : Ok [] := fun c hc => by cases hc
theorem ok_one {c : Int} (h0 : 0 < c) (h1 : c < 128) : Ok [c] := fun d hd => by rw [List.mem_singleton] at hd; subst hd; exact ⟨by unfold Is; omega, by omega⟩
theorem bs_byte {t : ByteArray} (c : UInt8) : bs t = [(c.toNat : Int)] ↔ t = ⟨#[c]⟩ := by
 constructor
 ·intro h; exact bs_inj (by rw [h]; rfl)
 ·rintro rfl; rfl
theorem one_text {k n : Int} {t : ByteArray} {Q : List Int -> Prop} {N : Prop} (hk : ∀ cs, Kd k cs n ↔ Q cs /\ N) : OneU (k, t, n) ↔ (∃ cs, Txt t cs /\ Ok cs /\ Q cs) /\ N := by
 rw [oneU_iff]
 constructor
 ·rintro ⟨cs, h1, h2, h3⟩
  have := (hk cs).1 h3
  exact ⟨⟨cs, h1, h2, this.1⟩, this.2⟩
 ·rintro ⟨⟨cs, h1, h2, h3⟩, h4⟩
  exact ⟨cs, h1, h2, (hk cs).2 ⟨h3, h4⟩⟩
theorem q_nil {t : ByteArray} : (∃ cs, Txt t cs /\ Ok cs /\ cs = []) ↔ t = ⟨#[]⟩ := by
 constructor
 ·rintro ⟨cs, h1, _, rfl⟩; exact txt_empty.1 h1
 ·intro h; exact ⟨[], txt_empty.2 h, ok_nil, rfl⟩
theorem q_some {t : ByteArray} : (∃ cs, Txt t cs /\ Ok cs /\ cs ≠ []) ↔ (t ≠ ⟨#[]⟩ /\ Snd t) := by
 constructor
 ·rintro ⟨cs, h1, h2, h3⟩
  exact ⟨fun e => h3 (Txt.one h1 (txt_empty.2 e)), cs, h1, h2⟩
 ·rintro ⟨h, cs, h1, h2⟩
  exact ⟨cs, h1, h2, fun e => h (txt_empty.1 (by rw [<- e]; exact h1))⟩
theorem q_any {t : ByteArray} : (∃ cs, Txt t cs /\ Ok cs /\ True) ↔ Snd t := by
 constructor
 ·rintro ⟨cs, h1, h2, _⟩; exact ⟨cs, h1, h2⟩
 ·rintro ⟨cs, h1, h2⟩; exact ⟨cs, h1, h2, trivial⟩
theorem q_del {t : ByteArray} : (∃ cs, Txt t cs /\ Ok cs /\ ∃ c, cs = [c] /\ Del c) ↔ DelT t := by
 constructor
 ·rintro ⟨cs, h1, h2, c, rfl, h3⟩; exact ⟨c, h1, h2, h3⟩
 ·rintro ⟨c, h1, h2, h3⟩; exact ⟨[c], h1, h2, c, rfl, h3⟩
theorem q_three {t : ByteArray} (a b c : UInt8) (ha : 0 < a.toNat /\ a.toNat < 128) (hb : 0 < b.toNat /\ b.toNat < 128) (hc : 0 < c.toNat /\ c.toNat < 128) :
 (∃ cs, Txt t cs /\ Ok cs /\ (cs = [(a.toNat : Int)] ∨ cs = [(b.toNat : Int)] ∨ cs = [(c.toNat : Int)])) ↔ (t = ⟨#[a]⟩ ∨ t = ⟨#[b]⟩ ∨ t = ⟨#[c]⟩) := by
 have key : ∀ x : UInt8, 0 < x.toNat /\ x.toNat < 128 -> (Txt t [(x.toNat : Int)] ↔ t = ⟨#[x]⟩) := fun x hx => by rw [txt_asc (by omega) (by omega), bs_byte]
 constructor
 ·rintro ⟨cs, h1, _, rfl | rfl | rfl⟩
  ·exact .inl ((key a ha).1 h1)
  ·exact .inr (.inl ((key b hb).1 h1))
  ·exact .inr (.inr ((key c hc).1 h1))
 ·rintro (h | h | h)
  ·exact ⟨_, (key a ha).2 h, ok_one (by omega) (by omega), .inl rfl⟩
  ·exact ⟨_, (key b hb).2 h, ok_one (by omega) (by omega), .inr (.inl rfl)⟩
  ·exact ⟨_, (key c hc).2 h, ok_one (by omega) (by omega), .inr (.inr rfl)⟩
theorem q_opens {t : ByteArray} : (∃ cs, Txt t cs /\ Ok cs /\ (cs = [40] ∨ cs = [91] ∨ cs = [123])) ↔ (t = ⟨#[40]⟩ ∨ t = ⟨#[91]⟩ ∨ t = ⟨#[123]⟩) := q_three 40 91 123 (by decide) (by decide) (by decide)
theorem q_closes {t : ByteArray} : (∃ cs, Txt t cs /\ Ok cs /\ (cs = [41] ∨ cs = [93] ∨ cs = [125])) ↔ (t = ⟨#[41]⟩ ∨ t = ⟨#[93]⟩ ∨ t = ⟨#[125]⟩) := q_three 41 93 125 (by decide) (by decide) (by decide)
theorem kd_none {k n : Int} {l : List Int} (h : ¬ (1 <= k /\ k <= 16)) : ¬ Kd k l n := by
 unfold Kd
 rintro (⟨h1, _⟩ | ⟨h1, _⟩ | ⟨h1, _⟩ | ⟨h1, _⟩ | ⟨h1, _⟩ | ⟨h1, _⟩ | ⟨h1, _⟩ | ⟨h1, _⟩ | ⟨h1, _⟩) <;> omega
end Pr
theorem bool_of {b : Bool} {P Q : Prop} [Decidable Q] (hb : b = true ↔ P /\ Q) (q : Bool) (hq : q = true ↔ P) : (q && decide Q) = b := by
 rw [Bool.eq_iff_iff, Bool.and_eq_true, decide_eq_true_iff, hb, hq]
open Classical in
theorem fits_at (c : Nat) (kd n : Int) (t : ByteArray) (b : Bool) (hb : b = true ↔ Pr.OneU (kd, t, n)) (hm : t.size <= 9223372036854775807) (w : World) (hT : UTab w.heap.size w) :
 Calls Tryz.prog 119 #[kindAt c kd, tokV kd t n] w (Bo b w) := by
 rcases (show ¬ (1 <= kd /\ kd <= 16) ∨ kd = 1 ∨ kd = 2 ∨ kd = 3 ∨ kd = 4 ∨ kd = 5 ∨ kd = 6 ∨ kd = 7 ∨ kd = 8 ∨ kd = 9 ∨ kd = 10 ∨ kd = 11 ∨ kd = 12 ∨ kd = 13 ∨ kd = 14 ∨ kd = 15 ∨ kd = 16 by omega) with h | rfl | rfl | rfl | rfl | rfl | rfl | rfl | rfl | rfl | rfl | rfl | rfl | rfl | rfl | rfl | rfl
 ·obtain rfl : b = false := by
   rw [Bool.eq_false_iff]
   intro hh
   obtain ⟨cs, _, _, h3⟩ := (Pr.oneU_iff kd n t).1 (hb.1 hh)
   exact Pr.kd_none h h3
  unfold kindAt
  rw [if_neg h]
  exact nil_fits ⟨#[]⟩ ⟨#[]⟩ kd n t w
 ·rw [Pr.one_text (Q := fun cs => cs = []) (N := n = 0) (fun cs => by simp [Pr.Kd]), Pr.q_nil] at hb
  have hq : decide (t = ⟨#[]⟩) = true ↔ t = ⟨#[]⟩ := decide_eq_true_iff
  rw [<- bool_of hb _ hq]
  exact fits_empty0 _ _ _ _ _ 1 n t _ hq w
 ·rw [Pr.one_text (Q := fun cs => cs ≠ []) (N := n = 0) (fun cs => by simp [Pr.Kd]), Pr.q_some] at hb
  have hq : decide ((t ≠ ⟨#[]⟩ /\ Pr.Snd t)) = true ↔ (t ≠ ⟨#[]⟩ /\ Pr.Snd t) := decide_eq_true_iff
  rw [<- bool_of hb _ hq]
  exact fits_named0 _ _ _ _ _ 2 n t _ hq hm w hT
 ·rw [Pr.one_text (Q := fun cs => cs ≠ []) (N := n = 0) (fun cs => by simp [Pr.Kd]), Pr.q_some] at hb
  have hq : decide ((t ≠ ⟨#[]⟩ /\ Pr.Snd t)) = true ↔ (t ≠ ⟨#[]⟩ /\ Pr.Snd t) := decide_eq_true_iff
  rw [<- bool_of hb _ hq]
  exact fits_named0 _ _ _ _ _ 3 n t _ hq hm w hT
 ·rw [Pr.one_text (Q := fun cs => cs ≠ []) (N := n = 0) (fun cs => by simp [Pr.Kd]), Pr.q_some] at hb
  have hq : decide ((t ≠ ⟨#[]⟩ /\ Pr.Snd t)) = true ↔ (t ≠ ⟨#[]⟩ /\ Pr.Snd t) := decide_eq_true_iff
  rw [<- bool_of hb _ hq]
  exact fits_named0 _ _ _ _ _ 4 n t _ hq hm w hT
 ·rw [Pr.one_text (Q := fun cs => cs ≠ []) (N := n = 0) (fun cs => by simp [Pr.Kd]), Pr.q_some] at hb
  have hq : decide ((t ≠ ⟨#[]⟩ /\ Pr.Snd t)) = true ↔ (t ≠ ⟨#[]⟩ /\ Pr.Snd t) := decide_eq_true_iff
  rw [<- bool_of hb _ hq]
  exact fits_named0 _ _ _ _ _ 5 n t _ hq hm w hT
 ·rw [Pr.one_text (Q := fun cs => True) (N := n = 0) (fun cs => by simp [Pr.Kd]), Pr.q_any] at hb
  have hq : decide (Pr.Snd t) = true ↔ Pr.Snd t := decide_eq_true_iff
  rw [<- bool_of hb _ hq]
  exact fits_sound0 _ _ _ _ _ 6 n t _ hq hm w hT
 ·rw [Pr.one_text (Q := fun cs => True) (N := n = 0) (fun cs => by simp [Pr.Kd]), Pr.q_any] at hb
  have hq : decide (Pr.Snd t) = true ↔ Pr.Snd t := decide_eq_true_iff
  rw [<- bool_of hb _ hq]
  exact fits_sound0 _ _ _ _ _ 7 n t _ hq hm w hT
 ·rw [Pr.one_text (Q := fun cs => cs = []) (N := n = Fx.stop n) (fun cs => by simp [Pr.Kd]), Pr.q_nil] at hb
  have hq : decide (t = ⟨#[]⟩) = true ↔ t = ⟨#[]⟩ := decide_eq_true_iff
  rw [<- bool_of hb _ hq]
  exact fits_empty1 _ _ _ _ _ 8 n t _ hq w
 ·rw [Pr.one_text (Q := fun cs => cs = []) (N := n = Fx.stop n) (fun cs => by simp [Pr.Kd]), Pr.q_nil] at hb
  have hq : decide (t = ⟨#[]⟩) = true ↔ t = ⟨#[]⟩ := decide_eq_true_iff
  rw [<- bool_of hb _ hq]
  exact fits_empty1 _ _ _ _ _ 9 n t _ hq w
 ·rw [Pr.one_text (Q := fun cs => cs ≠ []) (N := n = Fx.stop n) (fun cs => by simp [Pr.Kd]), Pr.q_some] at hb
  have hq : decide ((t ≠ ⟨#[]⟩ /\ Pr.Snd t)) = true ↔ (t ≠ ⟨#[]⟩ /\ Pr.Snd t) := decide_eq_true_iff
  rw [<- bool_of hb _ hq]
  exact fits_named1 _ _ _ _ _ 10 n t _ hq hm w hT
 ·rw [Pr.one_text (Q := fun cs => ∃ c, cs = [c] /\ Pr.Del c) (N := n = 0) (fun cs => by simp [Pr.Kd]), Pr.q_del] at hb
  have hq : decide (Pr.DelT t) = true ↔ Pr.DelT t := decide_eq_true_iff
  rw [<- bool_of hb _ hq]
  exact fits_delimits0 _ _ _ _ _ 11 n t _ hq hm w hT
 ·rw [Pr.one_text (Q := fun cs => (cs = [40] ∨ cs = [91] ∨ cs = [123])) (N := n = 0) (fun cs => by simp [Pr.Kd]), Pr.q_opens] at hb
  have hq : decide ((t = ⟨#[40]⟩ ∨ t = ⟨#[91]⟩ ∨ t = ⟨#[123]⟩)) = true ↔ (t = ⟨#[40]⟩ ∨ t = ⟨#[91]⟩ ∨ t = ⟨#[123]⟩) := decide_eq_true_iff
  rw [<- bool_of hb _ hq]
  exact fits_opens0 _ _ _ _ _ 12 n t _ hq w
 ·rw [Pr.one_text (Q := fun cs => (cs = [41] ∨ cs = [93] ∨ cs = [125])) (N := n = 0) (fun cs => by simp [Pr.Kd]), Pr.q_closes] at hb
  have hq : decide ((t = ⟨#[41]⟩ ∨ t = ⟨#[93]⟩ ∨ t = ⟨#[125]⟩)) = true ↔ (t = ⟨#[41]⟩ ∨ t = ⟨#[93]⟩ ∨ t = ⟨#[125]⟩) := decide_eq_true_iff
  rw [<- bool_of hb _ hq]
  exact fits_closes0 _ _ _ _ _ 13 n t _ hq w
 ·rw [Pr.one_text (Q := fun cs => cs = []) (N := n = 0) (fun cs => by simp [Pr.Kd]), Pr.q_nil] at hb
  have hq : decide (t = ⟨#[]⟩) = true ↔ t = ⟨#[]⟩ := decide_eq_true_iff
  rw [<- bool_of hb _ hq]
  exact fits_empty0 _ _ _ _ _ 14 n t _ hq w
 ·rw [Pr.one_text (Q := fun cs => cs = []) (N := n = 0) (fun cs => by simp [Pr.Kd]), Pr.q_nil] at hb
  have hq : decide (t = ⟨#[]⟩) = true ↔ t = ⟨#[]⟩ := decide_eq_true_iff
  rw [<- bool_of hb _ hq]
  exact fits_empty0 _ _ _ _ _ 15 n t _ hq w
 ·rw [Pr.one_text (Q := fun cs => cs = []) (N := n = 0) (fun cs => by simp [Pr.Kd]), Pr.q_nil] at hb
  have hq : decide (t = ⟨#[]⟩) = true ↔ t = ⟨#[]⟩ := decide_eq_true_iff
  rw [<- bool_of hb _ hq]
  exact fits_empty0 _ _ _ _ _ 16 n t _ hq w
end Go.Proofs.YtllmjggejbdpcaaGreatDoor
namespace Go.Proofs.YtllmjggejbdpcaaGreatDoor
open Go.Lib
open Go.ChangeShapes Go.WideShapes Go.ChangeAt Go.RowKit Go.WideMaps Go.WideElems
section
variable {H : Type} {enc : TypeId × Value -> H} {P : Program}
theorem post_of_below {f : Func} {s : ChangeSpec} {apart fresh handsOn : Bool} {W W' : World} {args : Array Value} {v : Value} {ds gs : List (DataW H)} {before pa pv : List MemPlace}
 (hW : DataW.Whole enc P f.params.toList s.vars apart W args.toList ds gs before)
 (hres : ∀ (b : Nat) (sp : Nat -> Bool) (hd : Bool), DataW.TrodAll enc P W' b sp hd f.resultTypes.toList (v.resultList f.resultTypes.size) (s.fn H (ds ++ gs)).results [])
 (hargs : ∀ sp : Nat -> Bool, (∀ p ∈ before, sp p.block = true) -> DataW.TrodAll enc P W' 0 sp true f.params.toList args.toList (s.fn H (ds ++ gs)).args pa)
 (hvars : ∀ sp : Nat -> Bool, (∀ p ∈ before, sp p.block = true) -> DataW.TrodVars enc P W' sp s.vars (s.fn H (ds ++ gs)).vars pv)
 (hb : Below W.heap.size W W') : s.post enc P f apart fresh handsOn false W args v W' := by
 have hlt : ∀ p ∈ before, p.block < W.heap.size := fun p hp => hW.lt p hp
 have hold : ∀ p ∈ before, (fun b => decide (b < W.heap.size)) p.block = true := fun p hp => by simpa using hlt p hp
 exact ⟨ds, gs, before, [], pa, pv, hW, hres _ _ _, hargs _ hold, hvars _ hold, hb.frame _, fun h => by cases h⟩
end
end Go.Proofs.YtllmjggejbdpcaaGreatDoor
namespace Go.Proofs.YtllmjggejbdpcaaGreatDoor
open Go.Lib Go.Joins Go.Deep
open Go.ChangeShapes Go.WideShapes Go.ChangeAt Go.RowKit Go.WideMaps Go.WideElems
open Go.ChangeMaps (setBlock shut_map_nil open_string shut_string)
section
variable {H : Type} {enc : TypeId × Value -> H}
def tokD (u : Tk.Tok) : DataW H := .agg [.lit (.int .i64 u.1), .lit (.string u.2.1.data.toList), .lit (.int .i64 u.2.2)]
def TokWf (u : Tk.Tok) : Prop := (Lit.int .i64 u.1).wf = true /\ u.2.1.size <= maxLen /\ (Lit.int .i64 u.2.2).wf = true
theorem i64_wf {n : Int} (h : (Lit.int .i64 n).wf = true) : I64 n := by
 simpa [Lit.wf, IntKind.min, IntKind.max, IntKind.signed, IntKind.bits, I64] using h
theorem tok_shut_gen {P : Program} {t : TypeId} {f0 f1 f2 : Field} (hs : P.underlying t = some (.struct #[f0, f1, f2])) (hone : oneCellFields P #[f0, f1, f2] = true) (hC : P.cellsOf t = 3) (i0 : P.underlying f0.type = some (.int .i64)) (i1 : P.underlying f1.type = some .string) (i2 : P.underlying f2.type = some (.int .i64))
 (u : Tk.Tok) {W : World} {base : Nat} {sp : Nat -> Bool} {held : Bool} (h : TokWf u) : ∃ n, DataW.trod enc P W base sp held n t [.int .i64 u.1, .string u.2.1, .int .i64 u.2.2] = some (tokD u, []) := by
 obtain ⟨n, hn⟩ := shut_agg3 (enc := enc) (w := W) (base := base) (spare := sp) (held := held) (v0 := .int .i64 u.1) (v1 := .string u.2.1) (v2 := .int .i64 u.2.2) (y0 := (.lit (.int .i64 u.1), [])) (y1 := (.lit (.string u.2.1.data.toList), [])) (y2 := (.lit (.int .i64 u.2.2), [])) hs hone hC
  ⟨1, trod_int_mk 0 i0 h.1⟩ ⟨1, by simp [DataW.trod, i1, h.2.1]⟩ ⟨1, trod_int_mk 0 i2 h.2.2⟩
 exact ⟨n, by simpa [Value.cells, tokD] using hn⟩
theorem tok_back_gen {P : Program} {t : TypeId} {f0 f1 f2 : Field} (hs : P.underlying t = some (.struct #[f0, f1, f2])) (hone : oneCellFields P #[f0, f1, f2] = true) (hC : P.cellsOf t = 3) (i0 : P.underlying f0.type = some (.int .i64)) (i1 : P.underlying f1.type = some .string) (i2 : P.underlying f2.type = some (.int .i64))
 {W : World} {base : Nat} {sp : Nat -> Bool} {held : Bool} {n : Nat} {cs : List Value} {x : DataW H × List MemPlace} (h : DataW.trod enc P W base sp held n t cs = some x) :
 ∃ u : Tk.Tok, cs = [.int .i64 u.1, .string u.2.1, .int .i64 u.2.2] /\ TokWf u /\ x = (tokD u, []) := by
 obtain ⟨y0, y1, y2, n', rfl, hl, h0, h1, h2⟩ := trod_struct3 hs h
 obtain ⟨o0, k0⟩ := hone_of hone 0 f0 rfl
 obtain ⟨o1, k1⟩ := hone_of hone 1 f1 rfl
 obtain ⟨o2, k2⟩ := hone_of hone 2 f2 rfl
 rw [o0, k0] at h0
 rw [o1, k1] at h1
 rw [o2, k2] at h2
 match cs, hl.trans hC with
 | [a, b, c], _ =>
   obtain ⟨k, e0, rfl, w0⟩ := DataW.trod_int i0 h0
   obtain ⟨s, e1, rfl, w1⟩ := DataW.trod_string i1 h1
   obtain ⟨m, e2, rfl, w2⟩ := DataW.trod_int i2 h2
   refine ⟨(k, s, m), ?_, ⟨w0, w1, w2⟩, rfl⟩
   simp at e0 e1 e2
   rw [e0, e1, e2]
theorem tok_shut (u : Tk.Tok) {W : World} {base : Nat} {sp : Nat -> Bool} {held : Bool} (h : TokWf u) : ∃ n, DataW.trod enc Tryz.prog W base sp held n 70 [.int .i64 u.1, .string u.2.1, .int .i64 u.2.2] = some (tokD u, []) :=
 tok_shut_gen Tryz.underlying70 (by kernel_rfl) (by kernel_rfl) Tryz.underlying3 Tryz.underlying9 Tryz.underlying3 u h
theorem tok_back {W : World} {base : Nat} {sp : Nat -> Bool} {held : Bool} {n : Nat} {cs : List Value} {x : DataW H × List MemPlace} (h : DataW.trod enc Tryz.prog W base sp held n 70 cs = some x) :
 ∃ u : Tk.Tok, cs = [.int .i64 u.1, .string u.2.1, .int .i64 u.2.2] /\ TokWf u /\ x = (tokD u, []) :=
 tok_back_gen Tryz.underlying70 (by kernel_rfl) (by kernel_rfl) Tryz.underlying3 Tryz.underlying9 Tryz.underlying3 h
instance : Inhabited Tk.Tok := ⟨(0, ⟨#[]⟩, 0)⟩
theorem open_toks {W : World} {base : Nat} {v : Value} {d : DataW H} {p : List MemPlace} (hval : Value.okWide Tryz.prog W .any base 32 v) (h : DataW.Trod enc Tryz.prog W 0 (fun _ => true) true 32 v d p) :
 ∃ (A : Option Addr) (cap : Nat) (us : List Tk.Tok), v = .slice A us.length cap /\ us.length <= cap /\ us.length <= 9223372036854775807 /\ Ts W W.heap.size A us /\ Pr.Wf us /\
   ∀ W', Below W.heap.size W W' -> ∀ sp : Nat -> Bool, (∀ x ∈ p, sp x.block = true) -> DataW.Trod enc Tryz.prog W' 0 sp true 32 v d p := by
 obtain ⟨a1, len, cap, rfl⟩ := okWide_slice Tryz.underlying32 hval
 obtain ⟨fuel, hf⟩ := h
 rcases open_slice Tryz.underlying32 hf with ⟨hcs, hx⟩ | ⟨a, len', cap', m, n, D, Pl, hcs, hb, hl, hm, hmm, hx, hi⟩
 ·simp [Value.cells] at hcs
  obtain ⟨rfl, rfl, rfl⟩ := hcs
  simp only [Prod.mk.injEq] at hx
  obtain ⟨rfl, rfl⟩ := hx
  refine ⟨none, 0, [], rfl, Nat.le_refl _, by simp, fun hl => by simp at hl, fun j hj => by simp at hj, fun W' _ sp _ => shut_slice_nil Tryz.underlying32⟩
 ·simp [Value.cells] at hcs
  obtain ⟨rfl, rfl, rfl⟩ := hcs
  have hC : Tryz.prog.cellsOf 70 = 3 := by kernel_rfl
  simp only [Prod.mk.injEq] at hx
  obtain ⟨hxd, hxp⟩ := hx
  rw [if_pos rfl] at hmm
  subst hmm
  have hone : ∀ i, i < m -> ∃ u : Tk.Tok, (∀ j x, [Value.int .i64 u.1, .string u.2.1, .int .i64 u.2.2][j]? = some x -> W.cell? ((a.add (i * 3)).add j) = some x) /\ TokWf u /\ D i = tokD u /\ Pl i = [] := fun i him => by
   obtain ⟨cs', hc, ht⟩ := hi i him
   obtain ⟨u, rfl, hw, he⟩ := tok_back ht
   obtain ⟨_, _, hat⟩ := World.cells?_some hc
   simp only [Prod.mk.injEq] at he
   refine ⟨u, fun j x hj => ?_, hw, he.1, he.2⟩
   have hj3 : j < 3 := (List.getElem?_eq_some_iff.1 hj).1
   have := hat j (by rw [hC]; exact hj3)
   rw [hC] at this
   rw [this, hj]
  obtain ⟨U, hU⟩ := choose_lt hone
  have hlen : ((List.range len).map U).length = len := by simp
  have htk : ∀ j, j < len -> Tk.tk ((List.range len).map U) j = U j := fun j hj => by
   rw [Tk.tk_eq (by rw [hlen]; exact hj)]
   simp
  have hblk : 0 < m -> a.block < W.heap.size /\ a.spot = none := fun h => by
   have h0 := (hU 0 h).1 0 _ rfl
   rw [Nat.zero_mul] at h0
   exact ⟨by simpa [Addr.add] using World.block_lt_of_cell? W _ h0, by simpa [Addr.add] using World.cell?_spot h0⟩
  rw [hxd, hxp]
  rw [hxp] at *
  refine ⟨some a, m, (List.range len).map U, by rw [hlen], by rw [hlen]; exact hl, by rw [hlen]; unfold maxLen at hm; omega, fun h0 => ?_, fun j hj => ?_, fun W' hb' sp hsp => ?_⟩
  ·rw [hlen] at h0
   obtain ⟨b, off, spot⟩ := a
   have hh := hblk (by omega)
   have hs : spot = none := hh.2
   subst hs
   refine ⟨b, off, rfl, hh.1, fun j hj => ?_⟩
   rw [hlen] at hj
   rw [htk j hj]
   have hc := (hU j (by omega)).1
   refine ⟨?_, ?_, ?_⟩
   ·have := hc 0 _ rfl
    rw [Addr.add_lit, Addr.add_lit] at this
    exact this
   ·have := hc 1 _ rfl
    rw [Addr.add_lit, Addr.add_lit] at this
    exact this
   ·have := hc 2 _ rfl
    rw [Addr.add_lit, Addr.add_lit] at this
    exact this
  ·rw [hlen] at hj
   rw [htk j hj]
   have := (hU j (by omega)).2.1
   exact ⟨i64_wf this.1, i64_wf this.2.2⟩
  ·by_cases hm0 : m = 0
   ·subst hm0
    have hl0 : len = 0 := by omega
    subst hl0
    have hspf : sp a.block = true ∨ sp a.block = false := by cases sp a.block <;> simp
    rcases hspf with hspt | hspt
    ·exact shut_slice_whole Tryz.underlying32 hb (Nat.le_refl _) hm hspt D Pl (fun i hi => by omega)
    ·have := shut_slice (enc := enc) (P := Tryz.prog) (w := W') (held := true) Tryz.underlying32 hb (Nat.le_refl 0) hm hspt D Pl (fun i hi => by omega)
     simpa using this
   ·have hspb : sp a.block = true := hsp (.cell a.block a.off) (by
     refine List.mem_append.2 (.inl (MemPlace.mem_row.2 ⟨0, ?_, by simp⟩))
     rw [hC]; omega)
    refine shut_slice_whole Tryz.underlying32 hb hl hm hspb D Pl (fun i hi => ?_)
    obtain ⟨hc, hw, hd, hp⟩ := hU i hi
    obtain ⟨nn, hnn⟩ := tok_shut (enc := enc) (W := W') (base := 0) (sp := sp) (held := true) (U i) hw
    refine ⟨[Value.int .i64 (U i).1, .string (U i).2.1, .int .i64 (U i).2.2], nn, ?_, ?_⟩
    ·rw [hC]
     refine World.cells?_of_each (by rw [block_add]; exact hb) rfl fun j hj => ?_
     have hlt : ((a.add (i * 3)).add j).block < W.heap.size := by rw [block_add, block_add]; exact (hblk (by omega)).1
     rw [hb'.cell hlt]
     have hs : ([Value.int .i64 (U i).1, .string (U i).2.1, .int .i64 (U i).2.2][j]?).isSome := by
      rw [List.getElem?_eq_getElem (by simpa using hj)]; rfl
     obtain ⟨x, hx⟩ := Option.isSome_iff_exists.1 hs
     rw [hc j x hx, hx]
    ·rw [hd, hp]
     exact hnn
end
end Go.Proofs.YtllmjggejbdpcaaGreatDoor
namespace Go.Proofs.YtllmjggejbdpcaaGreatDoor
open Go.Lib
open Go.ChangeShapes Go.WideShapes Go.ChangeAt Go.RowKit Go.WideMaps Go.WideElems
def tabs_ren : Go.Shelf.Ren := ⟨fun n => n, fun | 5 => 5 | 119 => 207 | 138 => 209 | 139 => 210 | n => n, fun | 3 => 1 | 4 => 2 | n => n⟩
theorem tabs_of {W : World} (h3 : VarReads Tryz.prog W "unicode/utf8.first" firstData) (h4 : VarReads Tryz.prog W "unicode/utf8.acceptRanges" acceptData) : UTab W.heap.size W :=
 UTab.of (utf8Tabs_of_readsT (P := Tryz.prog) (ρ := tabs_ren) ⟨Tryz.underlying5, Tryz.underlying207, Tryz.underlying209, Tryz.underlying210⟩
  ⟨by kernel_rfl, by kernel_rfl, by kernel_rfl, by kernel_rfl, by kernel_rfl, by kernel_rfl, by kernel_rfl⟩ h3 h4)
theorem first_is : Rows.laid_unicode_utf8_first = firstData := by kernel_rfl
theorem accept_is : Rows.laid_unicode_utf8_acceptRanges (H := Unit) = acceptData := by kernel_rfl
end Go.Proofs.YtllmjggejbdpcaaGreatDoor
namespace Go.Proofs.YtllmjggejbdpcaaGreatDoor
open Go.RowKit
theorem three_cells {w : World} {x y z : Value} {E : TypeId} : (w.alloc (.cells #[x, y, z] E)).cell? ⟨w.heap.size, 0, none⟩ = some x /\ (w.alloc (.cells #[x, y, z] E)).cell? ⟨w.heap.size, 1, none⟩ = some y /\ (w.alloc (.cells #[x, y, z] E)).cell? ⟨w.heap.size, 2, none⟩ = some z := by
 refine ⟨?_, ?_, ?_⟩ <;> (rw [World.cell?_alloc_mark]; rfl)
namespace Tk
theorem rd_chr {bl : List Int} (h : Ru.By bl) : ∀ c ∈ Ru.rd bl, 0 <= c /\ c <= 1114111 := fun c hc => by
 have := (Ru.rd_ok h c hc).1
 unfold Ru.Is at this
 omega
end Tk
namespace Pr
open Ru Tk
def nxK (us : List Tok) (j : Nat) : Option Int := if j < us.length then some (tk us j).1 else none
def stnB (kd : Int) (t : ByteArray) (nx : Option Int) : Bool := if kd = 1 then decide (nx ≠ some 1) else if kd = 7 then decide (nx = some 1) else if kd = 11 /\ t = ⟨#[92]⟩ then decide (nx = some 1 ∨ nx = none) else true
end Pr
def HeadK (w : World) (A : Option Addr) (m : Nat) (nx : Option Int) : Prop :=
 (m = 0 /\ nx = none) ∨ (0 < m /\ ∃ b off k1, A = some ⟨b, off, none⟩ /\ b < w.heap.size /\ w.cell? ⟨b, off, none⟩ = some (.int .i64 k1) /\ nx = some k1)
theorem HeadK.next {w w1 : World} {A : Option Addr} {m : Nat} {nx : Option Int} (h : HeadK w A m nx) (hb : Below w.heap.size w w1) : HeadK w1 A m nx := by
 rcases h with h | ⟨h0, b, off, k1, h1, h2, h3, h4⟩
 ·exact .inl h
 ·exact .inr ⟨h0, b, off, k1, h1, Nat.lt_of_lt_of_le h2 hb.size, (hb.cell (p := ⟨b, off, none⟩) h2).trans h3, h4⟩
theorem elem_tok (w : World) : (sizeOf (Tryz.prog.elem 32)).run Tryz.prog w = .ok 3 w := by kernel_rfl
theorem under_toks : Tryz.prog.underlying 32 = some (.slice (Tryz.prog.elem 32)) := by kernel_rfl
theorem tail_slice {w : World} {A : Option Addr} {us : List Tk.Tok} {cap k : Nat} (h : Ts w w.heap.size A us) (hk : k < us.length) (hc : us.length <= cap) :
 ∃ A', (∀ W, (Instr.slice 32 (.slice A us.length cap) (some (.int .i64 ((k : Int) + 1))) none none).run Tryz.prog W = .ok (.slice A' (us.length - (k + 1)) (cap - (k + 1))) W) /\ HeadK w A' (us.length - (k + 1)) (Pr.nxK us (k + 1)) := by
 obtain ⟨b, off, rfl, hb, hp⟩ := h (by omega)
 have hrun : ∀ W, (Instr.slice 32 (.slice (some ⟨b, off, none⟩) us.length cap) (some (.int .i64 ((k : Int) + 1))) none none).run Tryz.prog W = .ok (sliced (some ⟨b, off, none⟩) (k + 1) us.length cap 3) W := fun W => by
  rw [run_slice_l W 32 _ _ _ under_toks .i64 ((k : Int) + 1) (by omega) (by omega), elem_tok]
  simp only [Result.andThen_ok]
  rw [show ((k : Int) + 1).toNat = k + 1 by omega]
 by_cases hlt : k + 1 < us.length
 ·refine ⟨some ⟨b, off + (k + 1) * 3, none⟩, fun W => ?_, .inr ⟨by omega, b, off + (k + 1) * 3, (Tk.tk us (k + 1)).1, rfl, hb, (hp (k + 1) hlt).1, by unfold Pr.nxK; rw [if_pos hlt]⟩⟩
  rw [hrun W]
  unfold sliced
  rw [if_neg (by omega), Option.map_some, Addr.add_lit]
 ·refine ⟨if cap = k + 1 then some (⟨b, off, none⟩ : Addr) else Option.map (fun x : Addr => x.add ((k + 1) * 3)) (some (⟨b, off, none⟩ : Addr)), fun W => ?_, .inl ⟨by omega, by unfold Pr.nxK; rw [if_neg hlt]⟩⟩
  rw [hrun W]
  rfl
theorem stands_any (kd n : Int) (t : ByteArray) (A : Option Addr) (m c : Nat) (nx : Option Int) (w : World) (h : HeadK w A m nx) (hm : m <= 9223372036854775807) :
 Calls Tryz.prog 120 #[tokV kd t n, .slice A m c] w (Bo (Pr.stnB kd t nx) w) := by
 obtain ⟨W0, hW⟩ : ∃ W0, W0 = w.alloc (.cells #[.int .i64 kd, .string t, .int .i64 n] 70) := ⟨_, rfl⟩
 have hb0 : Below w.heap.size w W0 := by rw [hW]; exact (Below.refl _ _).alloc (Nat.le_refl _) _
 obtain ⟨q0, q1, q2⟩ := three_cells (w := w) (x := .int .i64 kd) (y := .string t) (z := .int .i64 n) (E := 70)
 rw [<- hW] at q0 q1 q2
 have HB0 := Lib.hid hb0
 have H := h.next hb0
 have key : ∀ b : Bool, Pr.stnB kd t nx = b -> Calls Tryz.prog 120 #[.agg #[.int .i64 kd, .string t, .int .i64 n], .slice A m c] w (Bo b w) := by
  intro bb hbb
  rcases H with ⟨rfl, rfl⟩ | ⟨h0, b, off, k1, rfl, _, hcell, rfl⟩
  ·skip
   by_cases g1 : kd = 1
   ·subst g1
    obtain rfl : bb = true := by rw [<- hbb]; rfl
    clear hbb h hb0 q2
    go_enter Tryz.func120, Tryz.ntmps120
    go_upto_region 1 with fail
    rw [<- hW]
    clear hW
    go_wp2_with fail
    go_ret
    exact ⟨rfl, HB0.out⟩
   ·have n1 := Ru.eq_f g1
    by_cases g7 : kd = 7
    ·subst g7
     obtain rfl : bb = false := by rw [<- hbb]; rfl
     clear hbb h hb0 q2
     go_enter Tryz.func120, Tryz.ntmps120
     go_upto_region 1 with fail
     rw [<- hW]
     clear hW
     go_wp2_with fail
     go_ret
     exact ⟨rfl, HB0.out⟩
    ·have n7 := Ru.eq_f g7
     by_cases g11 : kd = 11
     ·subst g11
      by_cases gt : t = ⟨#[92]⟩
      ·subst gt
       obtain rfl : bb = true := by rw [<- hbb]; rfl
       clear hbb h hb0 q2 g1 g7 n1 n7
       go_enter Tryz.func120, Tryz.ntmps120
       go_upto_region 1 with fail
       rw [<- hW]
       clear hW
       go_wp2_with fail
       go_ret
       exact ⟨rfl, HB0.out⟩
      ·have gt' : (t.toList == [92]) = false := by rw [str_test]; exact decide_eq_false gt
       obtain rfl : bb = true := by rw [<- hbb]; unfold Pr.stnB; simp [gt]
       clear hbb h hb0 q2 g1 g7 n1 n7 gt
       go_enter Tryz.func120, Tryz.ntmps120
       go_upto_region 1 with fail
       rw [<- hW]
       clear hW
       go_wp2_with fail
       go_ret
       exact ⟨rfl, HB0.out⟩
     ·have n11 := Ru.eq_f g11
      obtain rfl : bb = true := by rw [<- hbb]; unfold Pr.stnB; simp [g1, g7, g11]
      clear hbb h hb0 q2 g1 g7 g11
      go_enter Tryz.func120, Tryz.ntmps120
      go_upto_region 1 with fail
      rw [<- hW]
      clear hW
      go_wp2_with fail
      go_ret
      exact ⟨rfl, HB0.out⟩
  ·have hm0 := Ru.eq_f (show ¬ (m : Int) = 0 by omega)
   by_cases hk1 : k1 = 1
   ·subst hk1
    by_cases g1 : kd = 1
    ·subst g1
     obtain rfl : bb = false := by rw [<- hbb]; rfl
     clear hbb h hb0 q2
     go_enter Tryz.func120, Tryz.ntmps120
     go_upto_region 1 with fail
     rw [<- hW]
     clear hW
     go_wp2_with fail
     go_ret
     exact ⟨rfl, HB0.out⟩
    ·have n1 := Ru.eq_f g1
     by_cases g7 : kd = 7
     ·subst g7
      obtain rfl : bb = true := by rw [<- hbb]; rfl
      clear hbb h hb0 q2
      go_enter Tryz.func120, Tryz.ntmps120
      go_upto_region 1 with fail
      rw [<- hW]
      clear hW
      go_wp2_with fail
      go_ret
      exact ⟨rfl, HB0.out⟩
     ·have n7 := Ru.eq_f g7
      by_cases g11 : kd = 11
      ·subst g11
       by_cases gt : t = ⟨#[92]⟩
       ·subst gt
        obtain rfl : bb = true := by rw [<- hbb]; rfl
        clear hbb h hb0 q2 g1 g7 n1 n7
        go_enter Tryz.func120, Tryz.ntmps120
        go_upto_region 1 with fail
        rw [<- hW]
        clear hW
        go_wp2_with fail
        go_ret
        exact ⟨rfl, HB0.out⟩
       ·have gt' : (t.toList == [92]) = false := by rw [str_test]; exact decide_eq_false gt
        obtain rfl : bb = true := by rw [<- hbb]; unfold Pr.stnB; simp [gt]
        clear hbb h hb0 q2 g1 g7 n1 n7 gt
        go_enter Tryz.func120, Tryz.ntmps120
        go_upto_region 1 with fail
        rw [<- hW]
        clear hW
        go_wp2_with fail
        go_ret
        exact ⟨rfl, HB0.out⟩
      ·have n11 := Ru.eq_f g11
       obtain rfl : bb = true := by rw [<- hbb]; unfold Pr.stnB; simp [g1, g7, g11]
       clear hbb h hb0 q2 g1 g7 g11
       go_enter Tryz.func120, Tryz.ntmps120
       go_upto_region 1 with fail
       rw [<- hW]
       clear hW
       go_wp2_with fail
       go_ret
       exact ⟨rfl, HB0.out⟩
   ·have nk := Ru.eq_f hk1
    by_cases g1 : kd = 1
    ·subst g1
     obtain rfl : bb = true := by rw [<- hbb]; unfold Pr.stnB; simp [hk1]
     clear hbb h hb0 q2 hk1
     go_enter Tryz.func120, Tryz.ntmps120
     go_upto_region 1 with fail
     rw [<- hW]
     clear hW
     go_wp2_with fail
     go_ret
     exact ⟨rfl, HB0.out⟩
    ·have n1 := Ru.eq_f g1
     by_cases g7 : kd = 7
     ·subst g7
      obtain rfl : bb = false := by rw [<- hbb]; unfold Pr.stnB; simp [hk1]
      clear hbb h hb0 q2 hk1
      go_enter Tryz.func120, Tryz.ntmps120
      go_upto_region 1 with fail
      rw [<- hW]
      clear hW
      go_wp2_with fail
      go_ret
      exact ⟨rfl, HB0.out⟩
     ·have n7 := Ru.eq_f g7
      by_cases g11 : kd = 11
      ·subst g11
       by_cases gt : t = ⟨#[92]⟩
       ·subst gt
        obtain rfl : bb = false := by rw [<- hbb]; unfold Pr.stnB; simp [hk1]
        clear hbb h hb0 q2 g1 g7 n1 n7 hk1
        go_enter Tryz.func120, Tryz.ntmps120
        go_upto_region 1 with fail
        rw [<- hW]
        clear hW
        go_wp2_with fail
        go_ret
        exact ⟨rfl, HB0.out⟩
       ·have gt' : (t.toList == [92]) = false := by rw [str_test]; exact decide_eq_false gt
        obtain rfl : bb = true := by rw [<- hbb]; unfold Pr.stnB; simp [gt]
        clear hbb h hb0 q2 g1 g7 n1 n7 gt hk1
        go_enter Tryz.func120, Tryz.ntmps120
        go_upto_region 1 with fail
        rw [<- hW]
        clear hW
        go_wp2_with fail
        go_ret
        exact ⟨rfl, HB0.out⟩
      ·have n11 := Ru.eq_f g11
       obtain rfl : bb = true := by rw [<- hbb]; unfold Pr.stnB; simp [g1, g7, g11]
       clear hbb h hb0 q2 g1 g7 g11 hk1
       go_enter Tryz.func120, Tryz.ntmps120
       go_upto_region 1 with fail
       rw [<- hW]
       clear hW
       go_wp2_with fail
       go_ret
       exact ⟨rfl, HB0.out⟩
 exact key _ rfl
end Go.Proofs.YtllmjggejbdpcaaGreatDoor
namespace Go.Proofs.YtllmjggejbdpcaaGreatDoor
namespace Pr
open Tk
def FairB (us : List Tok) : Prop := us.length <= 16384 /\ ∀ j, j < us.length -> (tk us j).2.1.size <= 90000
theorem Fair.big {us : List Tok} (h : Fair us) : FairB us := ⟨Nat.le_trans h.1 (by decide), fun j hj => Nat.le_trans (h.2 j hj) (by decide)⟩
end Pr
end Go.Proofs.YtllmjggejbdpcaaGreatDoor
namespace Go.Proofs.YtllmjggejbdpcaaGreatDoor
open Go.RowKit
namespace Pr
open Ru Tk
def OkAt (us : List Tok) (j : Nat) : Prop := OneU (tk us j) /\ stnB (tk us j).1 (tk us j).2.1 (nxK us (j + 1)) = true
def RightU (us : List Tok) : Prop := us.length <= 16384 /\ ∀ j, j < us.length -> OkAt us j
end Pr
structure RtAt (A : Option Addr) (us : List Tk.Tok) (M c : Nat) (w : World) : Prop where
 ts : Ts w w.heap.size A us
 k : Kinds w M c
 ml : M < w.heap.size
 cl : c < w.heap.size
 t : PTab w.heap.size w
theorem RtAt.next {A : Option Addr} {us : List Tk.Tok} {M c : Nat} {w w1 : World} (h : RtAt A us M c w) (hb : Below w.heap.size w w1) : RtAt A us M c w1 :=
 ⟨h.ts.next hb, h.k.below hb h.ml h.cl, Nat.lt_of_lt_of_le h.ml hb.size, Nat.lt_of_lt_of_le h.cl hb.size, h.t.next hb⟩
theorem right_any (us : List Tk.Tok) (hF : Pr.FairB us) (hw : Pr.Wf us) (b : Bool) (hb : b = true ↔ Pr.RightU us) (A : Option Addr) (cap : Nat) (hc : us.length <= cap) (M c : Nat) (w : World) (h : RtAt A us M c w) :
 Calls Tryz.prog 57 #[.slice A us.length cap, .map (some M)] w (Bo b w) := by
 have hm := hF.1
 have H := Lib.hid h
 have HF := Lib.hid hF.2
 have HWf := Lib.hid hw
 have HBb := Lib.hid hb
 clear h hF hw hb
 go_enter Tryz.func57, Tryz.ntmps57
 go_wp2_with fail
 go_loopw [12] (fun v12 wr => ∃ k : Nat, k <= us.length /\ v12 = .int .i64 k /\ Hid (∀ j, j < k -> Pr.OkAt us j) /\ Hid (Below w.heap.size w wr)) (fun v12 _ => us.length - (RowKit.intOf v12).toNat)
 case atStart => exact ⟨0, Nat.zero_le _, rfl, Lib.hid (fun j hj => by omega), Lib.hid (Below.refl _ _)⟩
 case round =>
  obtain ⟨k, hk, rfl, HK, HB⟩ := hrel
  by_cases hlt : k < us.length
  ·have HR := Lib.hid (H.out.next HB.out)
   obtain ⟨A', hsl, hhd⟩ := tail_slice HR.out.ts hlt hc
   obtain ⟨bb, off, rfl, hbb, hp⟩ := HR.out.ts (by omega)
   obtain ⟨p0, p1, p2⟩ := hp k hlt
   have hsz := HF.out k hlt
   have hwf := HWf.out k hlt
   have HOk : Hid (Pr.OkAt us k ↔ (Pr.OneU (Tk.tk us k) /\ Pr.stnB (Tk.tk us k).1 (Tk.tk us k).2.1 (Pr.nxK us (k + 1)) = true)) := Lib.hid Iff.rfl
   clear hp
   have HHd := Lib.hid hhd
   clear hhd
   generalize Pr.nxK us (k + 1) = nx at *
   generalize Tk.tk us k = u at *
   obtain ⟨kd, t, n⟩ := u
   simp only at p0 p1 p2 hsz hwf HOk
   obtain ⟨W0, hW⟩ : ∃ W0, W0 = wr.alloc (.cells #[.int .i64 kd, .string t, .int .i64 n] 70) := ⟨_, rfl⟩
   have hb0 : Below wr.heap.size wr W0 := by rw [hW]; exact (Below.refl _ _).alloc (Nat.le_refl _) _
   have hs0 : wr.heap.size < W0.heap.size := by rw [hW]; simp
   obtain ⟨q0, q1, q2⟩ := three_cells (w := wr) (x := .int .i64 kd) (y := .string t) (z := .int .i64 n) (E := 70)
   rw [<- hW] at q0 q1 q2
   have HR0 := Lib.hid (HR.out.next hb0)
   have HB0 := Lib.hid (below_next HB.out hb0)
   have hlk := kinds_look (w := W0.drew) (HR0.out.next (Below.refl _ _).drew).k kd hwf.1
   have CS : Hid (∀ w1, Below W0.heap.size W0 w1 -> Calls Tryz.prog 120 #[.agg #[.int .i64 kd, .string t, .int .i64 n], .slice A' (us.length - (k + 1)) (cap - (k + 1))] w1 (Bo (Pr.stnB kd t nx) w1)) := Lib.hid fun w1 h1 => stands_any kd n t A' _ _ nx w1 ((HHd.out.next hb0).next h1) (by omega)
   by_cases ho : Pr.OneU (kd, t, n)
   ·have CF : Hid (Calls Tryz.prog 119 #[kindAt c kd, .agg #[.int .i64 kd, .string t, .int .i64 n]] W0.drew (Bo true W0.drew)) := Lib.hid (fits_at c kd n t true (by simp; exact ho) (by omega) W0.drew (HR0.out.next (Below.refl _ _).drew).t.u)
    generalize kindAt c kd = kv at *
    cases hst : Pr.stnB kd t nx
    ·rw [hst] at CS
     obtain rfl : b = false := by
      rw [Bool.eq_false_iff]
      intro hh
      have := (HOk.out.1 ((HBb.out.1 hh).2 k hlt)).2
      rw [hst] at this; cases this
     clear HBb HOk hst HK HHd ho HR HWf HF H HR0 hb0
     go_upto_region 6 with fail
     rw [<- hW]
     clear hW
     have hwr : IntKind.i64.wrap ((k : Int) + 1) = (k : Int) + 1 := IntWalk.i64_in _ (by omega)
     go_region_with (first | (go_at_call 119; ((with_reducible refine (CF.out).mono ?_); rintro e w1 ⟨rfl, b1⟩; have r0 := (b1.cell (p := ⟨wr.heap.size, 0, none⟩) hs0).trans q0; have r1 := (b1.cell (p := ⟨wr.heap.size, 1, none⟩) hs0).trans q1; have r2 := (b1.cell (p := ⟨wr.heap.size, 2, none⟩) hs0).trans q2; have HB1 := Lib.hid ((Below.refl W0.heap.size W0).drew.trans b1))) | (go_at_call 120; ((with_reducible refine (CS.out _ HB1.out).mono ?_); rintro e w2 ⟨rfl, b2⟩)))
     all_goals
      go_wp2_with fail
      go_ret
      exact ⟨rfl, below_next HB0.out (below_next HB1.out b2)⟩
    ·rw [hst] at CS
     have HK2 : Hid (∀ j, j < k + 1 -> Pr.OkAt us j) := Lib.hid fun j hj => by
      by_cases hj2 : j < k
      ·exact HK.out j hj2
      ·obtain rfl : j = k := by omega
       exact HOk.out.2 ⟨ho, hst⟩
     clear HBb HOk hst HK HHd ho HR HWf HF H HR0 hb0
     go_upto_region 6 with fail
     rw [<- hW]
     clear hW
     have hwr : IntKind.i64.wrap ((k : Int) + 1) = (k : Int) + 1 := IntWalk.i64_in _ (by omega)
     go_region_with (first | (go_at_call 119; ((with_reducible refine (CF.out).mono ?_); rintro e w1 ⟨rfl, b1⟩; have r0 := (b1.cell (p := ⟨wr.heap.size, 0, none⟩) hs0).trans q0; have r1 := (b1.cell (p := ⟨wr.heap.size, 1, none⟩) hs0).trans q1; have r2 := (b1.cell (p := ⟨wr.heap.size, 2, none⟩) hs0).trans q2; have HB1 := Lib.hid ((Below.refl W0.heap.size W0).drew.trans b1))) | (go_at_call 120; ((with_reducible refine (CS.out _ HB1.out).mono ?_); rintro e w2 ⟨rfl, b2⟩)))
     all_goals
      clear hwr
      go_wp2_with fail
      go_roundw
      case rel => exact ⟨k + 1, by omega, by go_num, HK2, Lib.hid (below_next HB0.out (below_next HB1.out b2))⟩
      case measure => simp [RowKit.intOf]; omega
   ·have CF : Hid (Calls Tryz.prog 119 #[kindAt c kd, .agg #[.int .i64 kd, .string t, .int .i64 n]] W0.drew (Bo false W0.drew)) := Lib.hid (fits_at c kd n t false (by simp; exact ho) (by omega) W0.drew (HR0.out.next (Below.refl _ _).drew).t.u)
    generalize kindAt c kd = kv at *
    obtain rfl : b = false := by
     rw [Bool.eq_false_iff]
     intro hh
     exact ho (HOk.out.1 ((HBb.out.1 hh).2 k hlt)).1
    clear HBb HOk HK HHd ho HR HWf HF H HR0 hb0
    go_upto_region 6 with fail
    rw [<- hW]
    clear hW
    have hwr : IntKind.i64.wrap ((k : Int) + 1) = (k : Int) + 1 := IntWalk.i64_in _ (by omega)
    first | (go_region_with (go_at_call 119; ((with_reducible refine (CF.out).mono ?_); rintro e w1 ⟨rfl, b1⟩; have HB1 := Lib.hid ((Below.refl W0.heap.size W0).drew.trans b1)))) | fail
    all_goals
     go_wp2_with fail
     go_ret
     exact ⟨rfl, below_next HB0.out HB1.out⟩
  ·obtain rfl : b = true := HBb.out.2 ⟨by omega, fun j hj => HK.out j (by omega)⟩
   clear HBb HK HWf HF H
   go_wp2_with fail
   go_ret
   exact ⟨rfl, HB.out⟩
end Go.Proofs.YtllmjggejbdpcaaGreatDoor
namespace Go.Proofs.YtllmjggejbdpcaaGreatDoor
open Go.Lib Go.Joins Go.Deep
open Go.ChangeShapes Go.WideShapes Go.ChangeAt Go.RowKit Go.WideMaps Go.WideElems
open Go.ChangeMaps (setBlock shut_map_nil open_string shut_string)
theorem tab64_is : Rows.laid_math_bits_deBruijn64tab (H := Unit) = tabData .u8 (Lib.deBruijn64tab.map fun n : Nat => (n : Int)) := by kernel_rfl
theorem ptab_of {W : World} {r1 r2 : List (String × DataW Unit)} (h64 : laidMet Tryz.prog (("math/bits.deBruijn64tab", Rows.laid_math_bits_deBruijn64tab) :: r1) W) (hpow : laidMet Tryz.prog (("internal/strconv.uint64pow10", Rows.laid_internal_strconv_uint64pow10) :: r2) W) (hU : UTab W.heap.size W) : PTab W.heap.size W := by
 have ht : Tab W.heap.size W := Lib.tabBelow_of_tabIs (Lib.tabIs_of_head (g := 4) (t := 230) (e := 215) (n := 20) (rest := r2) (by kernel_rfl) (by kernel_rfl) (by kernel_rfl) (by kernel_rfl) (by kernel_rfl) (by kernel_rfl) hpow)
 rw [tab64_is] at h64
 have hz := Lib.tabIs_of_head (g := 8) (t := 244) (e := 5) (n := 64) (rest := r1) (by kernel_rfl) (by kernel_rfl) (by kernel_rfl) (by kernel_rfl) (by kernel_rfl) (by kernel_rfl) h64
 have hz' : TabAt 8 Lib.deBruijn64tab W := fun j hj => by
  have := hz.cell (g := 8) (by kernel_rfl) j (by simpa using hj)
  rw [this]
  congr 2
  rw [List.getD_eq_getElem?_getD, List.getD_eq_getElem?_getD, List.getElem?_map]
  cases Lib.deBruijn64tab[j]? <;> rfl
 exact ⟨hU, ht, hz', World.block_lt_of_cell? W _ (hz' 0 (by decide))⟩
end Go.Proofs.YtllmjggejbdpcaaGreatDoor
namespace Go.Proofs.YtllmjggejbdpcaaGreatDoor
open Go.RowKit
namespace Ru
def lowI (c : Int) : Int := if 65 <= c /\ c <= 90 then c + 32 else c
def lowS (s : ByteArray) : ByteArray := strOfNums ((bs s).map lowI)
theorem low_by {l : List Int} (h : By l) : By (l.map lowI) := fun c hc => by
 obtain ⟨x, hx, rfl⟩ := List.mem_map.1 hc
 have := h x hx
 unfold lowI; split <;> omega
theorem bs_low (s : ByteArray) : bs (lowS s) = (bs s).map lowI := bs_str (low_by (bs_by s))
theorem lowS_size (s : ByteArray) : (lowS s).size = s.size := by unfold lowS; rw [strOfNums_size, List.length_map, bs_len]
theorem lowI_low (c : Int) : lowI (lowI c) = lowI c := by unfold lowI; repeat' split <;> omega
theorem lowS_low (s : ByteArray) : lowS (lowS s) = lowS s := by
 have : ((bs s).map lowI).map lowI = (bs s).map lowI := by
  rw [List.map_map]; exact List.map_congr_left fun c _ => lowI_low c
 show strOfNums ((bs (lowS s)).map lowI) = strOfNums ((bs s).map lowI)
 rw [bs_low, this]
theorem g_map {l : List Int} {k : Nat} (h : k < l.length) : g (l.map lowI) k = lowI (g l k) := by
 rw [g_eq (by simpa using h), g_eq h, List.getElem_map]
def part (l : List Int) (k : Nat) : List Int := (l.take k).map lowI ++ l.drop k
theorem part_g (l : List Int) (k j : Nat) (h : k <= l.length) : g (part l k) j = if j < k then lowI (g l j) else g l j := by
 unfold part
 by_cases hj : j < k
 ·rw [if_pos hj, g_left (by simp; omega), g_map (by simp; omega)]
  unfold g
  rw [List.getD_eq_getElem?_getD, List.getD_eq_getElem?_getD, List.getElem?_take, if_pos hj]
 ·rw [if_neg hj]
  unfold g
  rw [List.getD_eq_getElem?_getD, List.getD_eq_getElem?_getD, List.getElem?_append_right (by simp; omega), List.getElem?_drop]
  congr 2
  simp; omega
end Ru
structure Ow (E : TypeId) (sz : Nat) (w0 : World) (v : Value) (n : Nat) (xs : List Value) (wr : World) : Prop where
 own : wr.ownsRow w0.heap.size E sz v n xs
 bel : Below w0.heap.size w0 wr
section
variable {E : TypeId} {sz n : Nat} {w0 wr w1 : World} {v : Value} {xs : List Value}
theorem Ow.start (E : TypeId) (sz : Nat) (h : Below w0.heap.size w0 wr) : Ow E sz w0 (.slice none 0 0) 0 [] wr := ⟨World.ownsRow_nil _ _ _ _, h⟩
theorem Ow.next (h : Ow E sz w0 v n xs wr) (hb : Below wr.heap.size wr w1) : Ow E sz w0 v n xs w1 := ⟨kept_below h.own hb (Nat.le_refl _), below_next h.bel hb⟩
theorem Ow.drewN (h : Ow E sz w0 v n xs wr) (k : Nat) : Ow E sz w0 v n xs (wr.drewN k) := ⟨h.own, below_drewN h.bel k⟩
theorem Ow.alloc (h : Ow E sz w0 v n xs wr) (o : Obj) : Ow E sz w0 v n xs (wr.alloc o) := h.next ((Below.refl _ _).alloc (Nat.le_refl _) _)
theorem own_cut {w : World} {base : Nat} {e : TypeId} {size n cap : Nat} {A : Option Addr} {xs : List Value} (h : w.ownsRow base e size (.slice A n cap) n xs) {m : Nat} (hm : m <= n) : w.ownsRow base e size (.slice A m cap) m (xs.take (m * size)) := by
 have hl := h.1
 refine ⟨by rw [List.length_take, hl]; exact Nat.min_eq_left (Nat.mul_le_mul_right _ hm), ?_⟩
 rcases h.2 with ⟨hv, h0⟩ | ⟨g, c, cur, hv, h1, h2, h3, h4, h5, h6⟩
 ·left
  have hm0 : m = 0 := by omega
  injection hv with ha _ hc
  rw [ha, hc, hm0]
  exact ⟨rfl, rfl⟩
 ·right
  injection hv with ha _ hc
  refine ⟨g, c, cur, by rw [ha, hc], h1, h2, by omega, h4, h5, ?_⟩
  rw [<- h6, List.take_take, Nat.min_eq_left (Nat.mul_le_mul_right _ hm)]
theorem Ow.cut {A : Option Addr} {cap : Nat} (h : Ow E sz w0 (.slice A n cap) n xs wr) {m : Nat} (hm : m <= n) : Ow E sz w0 (.slice A m cap) m (xs.take (m * sz)) wr := ⟨own_cut h.own hm, h.bel⟩
theorem Ow.form (h : Ow E sz w0 v n xs wr) : ∃ (A : Option Addr) (cap : Nat), v = .slice A n cap /\ n <= cap := by
 rcases h.own.2 with ⟨rfl, h0⟩ | ⟨x, cap, cur, rfl, _, _, hc, _⟩
 ·exact ⟨none, 0, by rw [h0], by omega⟩
 ·exact ⟨_, cap, rfl, hc⟩
theorem Ow.cells {g cap : Nat} (h : Ow E sz w0 (.slice (some ⟨g, 0, none⟩) n cap) n xs wr) {j : Nat} {u : Value} (hj : xs[j]? = some u) : wr.cell? ⟨g, j, none⟩ = some u := by
 have := h.own.cells (g := g) rfl j u hj
 rwa [Addr.add_lit, Nat.zero_add] at this
theorem Ow.at_ (h : Ow E sz w0 v n xs wr) (h0 : 0 < n) : ∃ g cap, v = .slice (some ⟨g, 0, none⟩) n cap /\ n <= cap /\ w0.heap.size <= g /\ g < wr.heap.size := by
 rcases h.own.2 with ⟨_, h1⟩ | ⟨x, cap, cur, rfl, hg, hh, hc, _⟩
 ·omega
 ·exact ⟨x, cap, rfl, hc, hg, (Array.getElem?_eq_some_iff.1 hh).1⟩
theorem app_own {P : Program} {ops : Array Oper} {rest : List Oper} {o : Oper} {a : Act} {Q : Exit -> Act -> World -> Prop} (hgd : o.guard = none) (s x : Operand) (t : TypeId)
 (ho : o.op = .call { callee := .builtin .append, args := #[s, x], argTypes := #[t, t] }) (i : TypeInfo) (z : Value) (bytes : Nat) (ht : P.underlying t = some (.slice E)) (hi : P.info? E = some i) (hz : i.zero = some z)
 (hsize : i.size = sz) (hby : i.bytes = bytes) (hzs : z.cells.size = sz) (hsz : 0 < sz) (hs : a.eval s = v) (H : Ow E sz w0 v n xs wr) (news : List Value) (c : Nat) (E' : TypeId) (B : Nat) (hB : B = wr.heap.size)
 (hx : a.eval x = .slice (some ⟨B, 0, none⟩) 1 c) (hl : news.length = sz) (h1 : ∀ u ∈ news, u.oneCell' = true) (h63 : n + 1 <= maxLen) (hbytes : (n + 1) * bytes <= 140737488355328)
 (h : ∀ v' w3, Ow E sz w0 v' (n + 1) (xs ++ news) w3 -> wpList P ops Q rest (a.put o.dst v') w3) : wpList P ops Q (o :: rest) a (wr.alloc (.cells news.toArray E')) := by
 subst hB
 refine wpList_append_own _ hgd s x t ho w0.heap.size E i z sz bytes ht hi hz hsize hby hzs hsz v n xs hs (H.own.alloc _) ⟨wr.heap.size, 0, none⟩ 1 c news hx (by omega) (fun j u hj => ?_) h1 h63 hbytes (alloc_size H.bel.size _) ?_
 ·rw [Addr.add_lit, Nat.zero_add, World.cell?_alloc_mark]
  simpa using hj
 ·intro v' w3 hown hg _
  exact h v' w3 ⟨hown, (H.bel.alloc H.bel.size _).grown hg (by have := H.bel.size; simp; omega) (fun j hj => (H.own.lt j hj).1)⟩
end
theorem app_int {ops : Array Oper} {rest : List Oper} {o : Oper} {a : Act} {Q : Exit -> Act -> World -> Prop} {w0 wr : World} {v : Value} {l : List Int} (hgd : o.guard = none) (s x : Operand)
 (ho : o.op = .call { callee := .builtin .append, args := #[s, x], argTypes := #[54, 54] }) (hs : a.eval s = v) (H : Ow 3 1 w0 v l.length (nums .i64 l) wr) (y : Int) (c : Nat) (E' : TypeId)
 (hx : a.eval x = .slice (some ⟨wr.heap.size, 0, none⟩) 1 c) (hm : l.length <= 1000000)
 (h : ∀ v' w3, Ow 3 1 w0 v' (l ++ [y]).length (nums .i64 (l ++ [y])) w3 -> wpList Tryz.prog ops Q rest (a.put o.dst v') w3) : wpList Tryz.prog ops Q (o :: rest) a (wr.alloc (.cells #[.int .i64 y] E')) := by
 obtain ⟨i0, hi, hz0, hz1, hz2⟩ := info_parts Tryz.info3
 refine app_own hgd s x 54 ho i0 (.int .i64 0) 8 Tryz.underlying54 hi hz0 hz1 hz2 rfl (by decide) hs H [.int .i64 y] c E' _ rfl hx rfl (one_ok _) (by unfold maxLen; omega) (by omega) (fun v' w3 H3 => ?_)
 refine h v' w3 ?_
 rw [List.length_append, nums_app]
 exact H3
theorem made_of {w0 wr : World} {v : Value} {l : List Int} (H : Ow 3 1 w0 v l.length (nums .i64 l) wr) {e : Ending} (he : e = .returned v) : Made .i64 3 l w0 e wr := ⟨v, he, H.own, H.bel⟩
theorem app_u8 {ops : Array Oper} {rest : List Oper} {o : Oper} {a : Act} {Q : Exit -> Act -> World -> Prop} {w0 wr : World} {v : Value} {l : List Int} (hgd : o.guard = none) (s x : Operand)
 (ho : o.op = .call { callee := .builtin .append, args := #[s, x], argTypes := #[22, 22] }) (hs : a.eval s = v) (H : Ow 5 1 w0 v l.length (nums .u8 l) wr) (y : Int) (c : Nat) (E' : TypeId)
 (hx : a.eval x = .slice (some ⟨wr.heap.size, 0, none⟩) 1 c) (hm : l.length <= 1000000)
 (h : ∀ v' w3, Ow 5 1 w0 v' (l ++ [y]).length (nums .u8 (l ++ [y])) w3 -> wpList Tryz.prog ops Q rest (a.put o.dst v') w3) : wpList Tryz.prog ops Q (o :: rest) a (wr.alloc (.cells #[.int .u8 y] E')) := by
 obtain ⟨i0, hi, hz0, hz1, hz2⟩ := info_parts Tryz.info5
 refine app_own hgd s x 22 ho i0 (.int .u8 0) 1 Tryz.underlying22 hi hz0 hz1 hz2 rfl (by decide) hs H [.int .u8 y] c E' _ rfl hx rfl (by simp [Value.oneCell']) (by unfold maxLen; omega) (by omega) (fun v' w3 H3 => ?_)
 refine h v' w3 ?_
 rw [List.length_append, nums_app]
 exact H3
theorem low_take {l : List Int} {k : Nat} (h : k < l.length) : (l.map Ru.lowI).take (k + 1) = (l.map Ru.lowI).take k ++ [Ru.lowI (Ru.g l k)] := by
 rw [List.take_succ_eq_append_getElem (by simpa using h), List.getElem_map, Ru.g_eq h]
def LowrAt (w : World) (s : ByteArray) (v3 v4 : Value) (wr : World) : Prop :=
 ∃ k : Nat, k <= s.size /\ v4 = .int .i64 k /\ Ow 5 1 w v3 (((Ru.bs s).map Ru.lowI).take k).length (nums .u8 (((Ru.bs s).map Ru.lowI).take k)) wr
theorem rlower_any (s : ByteArray) (hm : s.size <= 90000) (w : World) :
 Calls Tryz.prog 23 #[.string s] w (Sg (Ru.lowS s) w) := by
 have HL : Hid ((Ru.bs s).length = s.size) := Lib.hid (Ru.bs_len s)
 go_enter Tryz.func23, Tryz.ntmps23
 go_wp2_with fail
 go_loopw [3, 4] (fun v3 v4 wr => LowrAt w s v3 v4 wr) (fun _ v4 _ => s.size - (RowKit.intOf v4).toNat)
 case atStart => exact ⟨0, Nat.zero_le _, rfl, Ow.start _ _ (Below.refl _ _)⟩
 case round =>
  obtain ⟨k, hk, rfl, hown⟩ := hrel
  have HO := Lib.hid hown
  clear hown
  have hml : (((Ru.bs s).map Ru.lowI).take k).length <= 1000000 := by
   have := List.length_take_le k ((Ru.bs s).map Ru.lowI); omega
  by_cases hlt : k < s.size
  ·have hb0 := (Ru.bs_by s).at_ k
   have HN := Lib.hid (low_take (l := Ru.bs s) (k := k) (by rw [HL.out]; exact hlt))
   rw [Ru.bs_get s k hlt] at hb0
   have HG := Lib.hid (Ru.bs_get s k hlt)
   by_cases u1 : 65 <= (s[k].toNat : Int)
   ·by_cases u2 : (s[k].toNat : Int) <= 90
    ·have HV : Hid ((s[k].toNat : Int) + 32 = Ru.lowI (Ru.g (Ru.bs s) k)) := Lib.hid (by rw [HG.out]; unfold Ru.lowI; rw [if_pos ⟨u1, u2⟩])
     generalize ((Ru.bs s).map Ru.lowI).take k = l at *
     go_wp2_with (at_builtin; refine app_u8 rfl _ _ rfl rfl HO.out ((s[k].toNat : Int) + 32) _ _ rfl hml ?_; intro v' w3 H3; have HO3 := Lib.hid H3; clear H3)
     go_roundw
     case rel => exact ⟨k + 1, by omega, by go_num, by rw [HN.out, <- HV.out]; exact HO3.out⟩
     case measure => simp [RowKit.intOf]; omega
    ·have HV : Hid ((s[k].toNat : Int) = Ru.lowI (Ru.g (Ru.bs s) k)) := Lib.hid (by rw [HG.out]; unfold Ru.lowI; rw [if_neg (fun c => u2 c.2)])
     have d2 : decide ((s[k].toNat : Int) <= 90) = false := decide_eq_false u2
     generalize ((Ru.bs s).map Ru.lowI).take k = l at *
     go_wp2_with (at_builtin; refine app_u8 rfl _ _ rfl rfl HO.out (s[k].toNat : Int) _ _ rfl hml ?_; intro v' w3 H3; have HO3 := Lib.hid H3; clear H3)
     go_roundw
     case rel => exact ⟨k + 1, by omega, by go_num, by rw [HN.out, <- HV.out]; exact HO3.out⟩
     case measure => simp [RowKit.intOf]; omega
   ·have HV : Hid ((s[k].toNat : Int) = Ru.lowI (Ru.g (Ru.bs s) k)) := Lib.hid (by rw [HG.out]; unfold Ru.lowI; rw [if_neg (fun c => u1 c.1)])
    have d1 : decide (65 <= (s[k].toNat : Int)) = false := decide_eq_false u1
    generalize ((Ru.bs s).map Ru.lowI).take k = l at *
    go_wp2_with (at_builtin; refine app_u8 rfl _ _ rfl rfl HO.out (s[k].toNat : Int) _ _ rfl hml ?_; intro v' w3 H3; have HO3 := Lib.hid H3; clear H3)
    go_roundw
    case rel => exact ⟨k + 1, by omega, by go_num, by rw [HN.out, <- HV.out]; exact HO3.out⟩
    case measure => simp [RowKit.intOf]; omega
  ·obtain rfl : k = s.size := by omega
   have HT : Hid (((Ru.bs s).map Ru.lowI).take s.size = (Ru.bs s).map Ru.lowI) := Lib.hid (List.take_of_length_le (by rw [List.length_map, HL.out]; exact Nat.le_refl _))
   obtain ⟨A, cap, rfl, hc, hB⟩ := own_bs HO.out.own
   have hconv := conv_bytes cap hB
   have HB := Lib.hid HO.out.bel
   have HTT : Hid (strOfNums (((Ru.bs s).map Ru.lowI).take s.size) = Ru.lowS s) := Lib.hid (by rw [HT.out]; rfl)
   clear HO hB
   generalize ((Ru.bs s).map Ru.lowI).take s.size = l at *
   go_wp2_with fail
   go_ret
   exact ⟨by rw [<- HTT.out]; rfl, HB.out⟩
end Go.Proofs.YtllmjggejbdpcaaGreatDoor
