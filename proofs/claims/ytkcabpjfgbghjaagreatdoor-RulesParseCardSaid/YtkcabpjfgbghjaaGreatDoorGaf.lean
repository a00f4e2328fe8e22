/-
  The walk of print's fits.
-/
import Derived.Test.YtkcabpjfgbghjaaGreatDoorGae
import Derived.Test.YtkcabpjfgbghjaaGreatDoorGad
import Derived.Deep.QuietTactic
import Derived.BigQuiet
namespace Go.Proofs.YtkcabpjfgbghjaaGreatDoor
set_option maxHeartbeats 16000000
set_option maxRecDepth 100000
open Go.RowKit
abbrev kindV (nb : Bool) (may : Nat) (a : ByteArray) (f : Fn) (cs cs2 : Array Value) (z : ByteArray) : Value := .agg #[.bool nb, fnV may, .string a, .func f cs cs2, .string z]
theorem below_two {w w1 : World} {o p : Obj} (h : Below ((w.alloc o).alloc p).heap.size ((w.alloc o).alloc p) w1) : Below w.heap.size w w1 :=
 (((Below.refl _ _).alloc (Nat.le_refl _) o).alloc (by simp) p).trans (h.mono (by simp; omega))
theorem two_below (w : World) (o p : Obj) : Below w.heap.size w ((w.alloc o).alloc p) := ((Below.refl _ _).alloc (Nat.le_refl _) o).alloc (by simp) p
theorem two_cells {w w1 : World} {o : Obj} {x y z : Value} {E : TypeId} (h : Below ((w.alloc o).alloc (.cells #[x, y, z] E)).heap.size ((w.alloc o).alloc (.cells #[x, y, z] E)) w1) : w1.cell? ⟨w.heap.size + 1, 2, none⟩ = some z := by
 have hs : (w.alloc o).heap.size = w.heap.size + 1 := by simp
 rw [h.cell (p := ⟨w.heap.size + 1, 2, none⟩) (by simp), <- hs, World.cell?_alloc_mark]; rfl
theorem two_cell0 {w w1 : World} {p : Obj} {x0 x1 x2 x3 x4 : Value} {E : TypeId} (h : Below ((w.alloc (.cells #[x0, x1, x2, x3, x4] E)).alloc p).heap.size ((w.alloc (.cells #[x0, x1, x2, x3, x4] E)).alloc p) w1) : w1.cell? ⟨w.heap.size, 0, none⟩ = some x0 := by
 rw [h.cell (p := ⟨w.heap.size, 0, none⟩) (by simp; omega), World.cell?_alloc_lt _ _ _ (by simp), World.cell?_alloc_mark]; rfl
theorem nil_fits (a z : ByteArray) (kd n : Int) (t : ByteArray) (w : World) :
 Calls Tryz.prog 134 #[.agg #[.bool false, .nilFunc, .string a, .nilFunc, .string z], tokV kd t n] w (Bo false w) := by
 have he : ∀ W, (binOp .eql 122 .nilFunc .nilFunc).run Tryz.prog W = .ok (.bool true) W := fun _ => by kernel_rfl
 unfold tokV
 go_enter Tryz.func134, Tryz.ntmps134
 go_wp2_with fail
 go_ret
 exact ⟨rfl, two_below _ _ _⟩
theorem fits_empty0 (a z : ByteArray) (f : Fn) (cs cs2 : Array Value) (kd n : Int) (t : ByteArray) (b : Bool) (hb : b = true ↔ t = ⟨#[]⟩) (w : World) :
 Calls Tryz.prog 134 #[kindV false 128 a f cs cs2 z, tokV kd t n] w (Bo (b && decide (n = 0)) w) := by
 have C := Lib.hid (fun (w0 : World) (hw : Below w.heap.size w w0) => (fun w hw => empty_any t b hb w : ∀ (w1 : World), Below w.heap.size w w1 -> Calls Tryz.prog 128 #[.string t] w1 (Bo b w1)) w0 hw)
 have he : ∀ W, (binOp .eql 122 (fnV 128) .nilFunc).run Tryz.prog W = .ok (.bool false) W := fun _ => by kernel_rfl
 unfold tokV
 clear hb
 cases b
 ·go_enter Tryz.func134, Tryz.ntmps134
  go_wp2_with (go_at_call 128; ((with_reducible refine (C.out _ (two_below _ _ _)).mono ?_); rintro e w1 ⟨rfl, b1⟩; have c0 := two_cell0 b1; have c2 := two_cells b1))
  go_ret
  exact ⟨rfl, below_two b1⟩
 ·by_cases hn : n = 0
  ·have q := Ru.eq_t hn
   rw [decide_eq_true hn]
   clear hn
   go_enter Tryz.func134, Tryz.ntmps134
   go_wp2_with (go_at_call 128; ((with_reducible refine (C.out _ (two_below _ _ _)).mono ?_); rintro e w1 ⟨rfl, b1⟩; have c0 := two_cell0 b1; have c2 := two_cells b1))
   go_ret
   exact ⟨rfl, below_two b1⟩
  ·have q := Ru.eq_f hn
   rw [decide_eq_false hn]
   clear hn
   go_enter Tryz.func134, Tryz.ntmps134
   go_wp2_with (go_at_call 128; ((with_reducible refine (C.out _ (two_below _ _ _)).mono ?_); rintro e w1 ⟨rfl, b1⟩; have c0 := two_cell0 b1; have c2 := two_cells b1))
   go_ret
   exact ⟨rfl, below_two b1⟩
theorem fits_named0 (a z : ByteArray) (f : Fn) (cs cs2 : Array Value) (kd n : Int) (t : ByteArray) (b : Bool) (hb : b = true ↔ (t ≠ ⟨#[]⟩ /\ Pr.Snd t)) (hm : t.size <= 9223372036854775807) (w : World) (hT : UTab w.heap.size w) :
 Calls Tryz.prog 134 #[kindV false 129 a f cs cs2 z, tokV kd t n] w (Bo (b && decide (n = 0)) w) := by
 have C := Lib.hid (fun (w0 : World) (hw : Below w.heap.size w w0) => (fun w hw => named_any t b hb hm w (hT.next hw) : ∀ (w1 : World), Below w.heap.size w w1 -> Calls Tryz.prog 129 #[.string t] w1 (Bo b w1)) w0 hw)
 have he : ∀ W, (binOp .eql 122 (fnV 129) .nilFunc).run Tryz.prog W = .ok (.bool false) W := fun _ => by kernel_rfl
 unfold tokV
 clear hb hT
 cases b
 ·go_enter Tryz.func134, Tryz.ntmps134
  go_wp2_with (go_at_call 129; ((with_reducible refine (C.out _ (two_below _ _ _)).mono ?_); rintro e w1 ⟨rfl, b1⟩; have c0 := two_cell0 b1; have c2 := two_cells b1))
  go_ret
  exact ⟨rfl, below_two b1⟩
 ·by_cases hn : n = 0
  ·have q := Ru.eq_t hn
   rw [decide_eq_true hn]
   clear hn
   go_enter Tryz.func134, Tryz.ntmps134
   go_wp2_with (go_at_call 129; ((with_reducible refine (C.out _ (two_below _ _ _)).mono ?_); rintro e w1 ⟨rfl, b1⟩; have c0 := two_cell0 b1; have c2 := two_cells b1))
   go_ret
   exact ⟨rfl, below_two b1⟩
  ·have q := Ru.eq_f hn
   rw [decide_eq_false hn]
   clear hn
   go_enter Tryz.func134, Tryz.ntmps134
   go_wp2_with (go_at_call 129; ((with_reducible refine (C.out _ (two_below _ _ _)).mono ?_); rintro e w1 ⟨rfl, b1⟩; have c0 := two_cell0 b1; have c2 := two_cells b1))
   go_ret
   exact ⟨rfl, below_two b1⟩
theorem fits_sound0 (a z : ByteArray) (f : Fn) (cs cs2 : Array Value) (kd n : Int) (t : ByteArray) (b : Bool) (hb : b = true ↔ Pr.Snd t) (hm : t.size <= 9223372036854775807) (w : World) (hT : UTab w.heap.size w) :
 Calls Tryz.prog 134 #[kindV false 130 a f cs cs2 z, tokV kd t n] w (Bo (b && decide (n = 0)) w) := by
 have C := Lib.hid (fun (w0 : World) (hw : Below w.heap.size w w0) => (fun w hw => sound_any t b hb hm w (hT.next hw) : ∀ (w1 : World), Below w.heap.size w w1 -> Calls Tryz.prog 130 #[.string t] w1 (Bo b w1)) w0 hw)
 have he : ∀ W, (binOp .eql 122 (fnV 130) .nilFunc).run Tryz.prog W = .ok (.bool false) W := fun _ => by kernel_rfl
 unfold tokV
 clear hb hT
 cases b
 ·go_enter Tryz.func134, Tryz.ntmps134
  go_wp2_with (go_at_call 130; ((with_reducible refine (C.out _ (two_below _ _ _)).mono ?_); rintro e w1 ⟨rfl, b1⟩; have c0 := two_cell0 b1; have c2 := two_cells b1))
  go_ret
  exact ⟨rfl, below_two b1⟩
 ·by_cases hn : n = 0
  ·have q := Ru.eq_t hn
   rw [decide_eq_true hn]
   clear hn
   go_enter Tryz.func134, Tryz.ntmps134
   go_wp2_with (go_at_call 130; ((with_reducible refine (C.out _ (two_below _ _ _)).mono ?_); rintro e w1 ⟨rfl, b1⟩; have c0 := two_cell0 b1; have c2 := two_cells b1))
   go_ret
   exact ⟨rfl, below_two b1⟩
  ·have q := Ru.eq_f hn
   rw [decide_eq_false hn]
   clear hn
   go_enter Tryz.func134, Tryz.ntmps134
   go_wp2_with (go_at_call 130; ((with_reducible refine (C.out _ (two_below _ _ _)).mono ?_); rintro e w1 ⟨rfl, b1⟩; have c0 := two_cell0 b1; have c2 := two_cells b1))
   go_ret
   exact ⟨rfl, below_two b1⟩
theorem fits_delimits0 (a z : ByteArray) (f : Fn) (cs cs2 : Array Value) (kd n : Int) (t : ByteArray) (b : Bool) (hb : b = true ↔ Pr.DelT t) (hm : t.size <= 9223372036854775807) (w : World) (hT : UTab w.heap.size w) :
 Calls Tryz.prog 134 #[kindV false 131 a f cs cs2 z, tokV kd t n] w (Bo (b && decide (n = 0)) w) := by
 have C := Lib.hid (fun (w0 : World) (hw : Below w.heap.size w w0) => (fun w hw => delimits_any t b hb hm w (hT.next hw) : ∀ (w1 : World), Below w.heap.size w w1 -> Calls Tryz.prog 131 #[.string t] w1 (Bo b w1)) w0 hw)
 have he : ∀ W, (binOp .eql 122 (fnV 131) .nilFunc).run Tryz.prog W = .ok (.bool false) W := fun _ => by kernel_rfl
 unfold tokV
 clear hb hT
 cases b
 ·go_enter Tryz.func134, Tryz.ntmps134
  go_wp2_with (go_at_call 131; ((with_reducible refine (C.out _ (two_below _ _ _)).mono ?_); rintro e w1 ⟨rfl, b1⟩; have c0 := two_cell0 b1; have c2 := two_cells b1))
  go_ret
  exact ⟨rfl, below_two b1⟩
 ·by_cases hn : n = 0
  ·have q := Ru.eq_t hn
   rw [decide_eq_true hn]
   clear hn
   go_enter Tryz.func134, Tryz.ntmps134
   go_wp2_with (go_at_call 131; ((with_reducible refine (C.out _ (two_below _ _ _)).mono ?_); rintro e w1 ⟨rfl, b1⟩; have c0 := two_cell0 b1; have c2 := two_cells b1))
   go_ret
   exact ⟨rfl, below_two b1⟩
  ·have q := Ru.eq_f hn
   rw [decide_eq_false hn]
   clear hn
   go_enter Tryz.func134, Tryz.ntmps134
   go_wp2_with (go_at_call 131; ((with_reducible refine (C.out _ (two_below _ _ _)).mono ?_); rintro e w1 ⟨rfl, b1⟩; have c0 := two_cell0 b1; have c2 := two_cells b1))
   go_ret
   exact ⟨rfl, below_two b1⟩
theorem fits_opens0 (a z : ByteArray) (f : Fn) (cs cs2 : Array Value) (kd n : Int) (t : ByteArray) (b : Bool) (hb : b = true ↔ (t = ⟨#[40]⟩ ∨ t = ⟨#[91]⟩ ∨ t = ⟨#[123]⟩)) (w : World) :
 Calls Tryz.prog 134 #[kindV false 132 a f cs cs2 z, tokV kd t n] w (Bo (b && decide (n = 0)) w) := by
 have C := Lib.hid (fun (w0 : World) (hw : Below w.heap.size w w0) => (fun w hw => popens_any t b hb w : ∀ (w1 : World), Below w.heap.size w w1 -> Calls Tryz.prog 132 #[.string t] w1 (Bo b w1)) w0 hw)
 have he : ∀ W, (binOp .eql 122 (fnV 132) .nilFunc).run Tryz.prog W = .ok (.bool false) W := fun _ => by kernel_rfl
 unfold tokV
 clear hb
 cases b
 ·go_enter Tryz.func134, Tryz.ntmps134
  go_wp2_with (go_at_call 132; ((with_reducible refine (C.out _ (two_below _ _ _)).mono ?_); rintro e w1 ⟨rfl, b1⟩; have c0 := two_cell0 b1; have c2 := two_cells b1))
  go_ret
  exact ⟨rfl, below_two b1⟩
 ·by_cases hn : n = 0
  ·have q := Ru.eq_t hn
   rw [decide_eq_true hn]
   clear hn
   go_enter Tryz.func134, Tryz.ntmps134
   go_wp2_with (go_at_call 132; ((with_reducible refine (C.out _ (two_below _ _ _)).mono ?_); rintro e w1 ⟨rfl, b1⟩; have c0 := two_cell0 b1; have c2 := two_cells b1))
   go_ret
   exact ⟨rfl, below_two b1⟩
  ·have q := Ru.eq_f hn
   rw [decide_eq_false hn]
   clear hn
   go_enter Tryz.func134, Tryz.ntmps134
   go_wp2_with (go_at_call 132; ((with_reducible refine (C.out _ (two_below _ _ _)).mono ?_); rintro e w1 ⟨rfl, b1⟩; have c0 := two_cell0 b1; have c2 := two_cells b1))
   go_ret
   exact ⟨rfl, below_two b1⟩
theorem fits_closes0 (a z : ByteArray) (f : Fn) (cs cs2 : Array Value) (kd n : Int) (t : ByteArray) (b : Bool) (hb : b = true ↔ (t = ⟨#[41]⟩ ∨ t = ⟨#[93]⟩ ∨ t = ⟨#[125]⟩)) (w : World) :
 Calls Tryz.prog 134 #[kindV false 133 a f cs cs2 z, tokV kd t n] w (Bo (b && decide (n = 0)) w) := by
 have C := Lib.hid (fun (w0 : World) (hw : Below w.heap.size w w0) => (fun w hw => closes_any t b hb w : ∀ (w1 : World), Below w.heap.size w w1 -> Calls Tryz.prog 133 #[.string t] w1 (Bo b w1)) w0 hw)
 have he : ∀ W, (binOp .eql 122 (fnV 133) .nilFunc).run Tryz.prog W = .ok (.bool false) W := fun _ => by kernel_rfl
 unfold tokV
 clear hb
 cases b
 ·go_enter Tryz.func134, Tryz.ntmps134
  go_wp2_with (go_at_call 133; ((with_reducible refine (C.out _ (two_below _ _ _)).mono ?_); rintro e w1 ⟨rfl, b1⟩; have c0 := two_cell0 b1; have c2 := two_cells b1))
  go_ret
  exact ⟨rfl, below_two b1⟩
 ·by_cases hn : n = 0
  ·have q := Ru.eq_t hn
   rw [decide_eq_true hn]
   clear hn
   go_enter Tryz.func134, Tryz.ntmps134
   go_wp2_with (go_at_call 133; ((with_reducible refine (C.out _ (two_below _ _ _)).mono ?_); rintro e w1 ⟨rfl, b1⟩; have c0 := two_cell0 b1; have c2 := two_cells b1))
   go_ret
   exact ⟨rfl, below_two b1⟩
  ·have q := Ru.eq_f hn
   rw [decide_eq_false hn]
   clear hn
   go_enter Tryz.func134, Tryz.ntmps134
   go_wp2_with (go_at_call 133; ((with_reducible refine (C.out _ (two_below _ _ _)).mono ?_); rintro e w1 ⟨rfl, b1⟩; have c0 := two_cell0 b1; have c2 := two_cells b1))
   go_ret
   exact ⟨rfl, below_two b1⟩
theorem fits_empty1 (a z : ByteArray) (f : Fn) (cs cs2 : Array Value) (kd n : Int) (t : ByteArray) (b : Bool) (hb : b = true ↔ t = ⟨#[]⟩) (w : World) :
 Calls Tryz.prog 134 #[kindV true 128 a f cs cs2 z, tokV kd t n] w (Bo (b && decide (n = Fx.stop n)) w) := by
 have C := Lib.hid (fun (w0 : World) (hw : Below w.heap.size w w0) => (fun w hw => empty_any t b hb w : ∀ (w1 : World), Below w.heap.size w w1 -> Calls Tryz.prog 128 #[.string t] w1 (Bo b w1)) w0 hw)
 have he : ∀ W, (binOp .eql 122 (fnV 128) .nilFunc).run Tryz.prog W = .ok (.bool false) W := fun _ => by kernel_rfl
 unfold tokV
 clear hb
 cases b
 ·go_enter Tryz.func134, Tryz.ntmps134
  go_wp2_with (go_at_call 128; ((with_reducible refine (C.out _ (two_below _ _ _)).mono ?_); rintro e w1 ⟨rfl, b1⟩; have c0 := two_cell0 b1; have c2 := two_cells b1))
  go_ret
  exact ⟨rfl, below_two b1⟩
 ·have CS := Lib.hid (fun w => stop_any n w)
  generalize Fx.stop n = sn at *
  by_cases hn : n = sn
  ·have q := Ru.eq_t hn
   rw [decide_eq_true hn]
   clear hn
   go_enter Tryz.func134, Tryz.ntmps134
   go_wp2_with (go_at_call 128; ((with_reducible refine (C.out _ (two_below _ _ _)).mono ?_); rintro e w1 ⟨rfl, b1⟩; have c0 := two_cell0 b1; have c2 := two_cells b1))
   go_quiet ((go_at_call 180; exact Calls.quiet_of_same ((CS.out _).mono fun _ _ h => ⟨h.1, h.2.symm⟩)))
   go_wp2_with fail
   go_ret
   exact ⟨rfl, below_drewN (below_two b1) _⟩
  ·have q := Ru.eq_f hn
   rw [decide_eq_false hn]
   clear hn
   go_enter Tryz.func134, Tryz.ntmps134
   go_wp2_with (go_at_call 128; ((with_reducible refine (C.out _ (two_below _ _ _)).mono ?_); rintro e w1 ⟨rfl, b1⟩; have c0 := two_cell0 b1; have c2 := two_cells b1))
   go_quiet ((go_at_call 180; exact Calls.quiet_of_same ((CS.out _).mono fun _ _ h => ⟨h.1, h.2.symm⟩)))
   go_wp2_with fail
   go_ret
   exact ⟨rfl, below_drewN (below_two b1) _⟩
theorem fits_named1 (a z : ByteArray) (f : Fn) (cs cs2 : Array Value) (kd n : Int) (t : ByteArray) (b : Bool) (hb : b = true ↔ (t ≠ ⟨#[]⟩ /\ Pr.Snd t)) (hm : t.size <= 9223372036854775807) (w : World) (hT : UTab w.heap.size w) :
 Calls Tryz.prog 134 #[kindV true 129 a f cs cs2 z, tokV kd t n] w (Bo (b && decide (n = Fx.stop n)) w) := by
 have C := Lib.hid (fun (w0 : World) (hw : Below w.heap.size w w0) => (fun w hw => named_any t b hb hm w (hT.next hw) : ∀ (w1 : World), Below w.heap.size w w1 -> Calls Tryz.prog 129 #[.string t] w1 (Bo b w1)) w0 hw)
 have he : ∀ W, (binOp .eql 122 (fnV 129) .nilFunc).run Tryz.prog W = .ok (.bool false) W := fun _ => by kernel_rfl
 unfold tokV
 clear hb hT
 cases b
 ·go_enter Tryz.func134, Tryz.ntmps134
  go_wp2_with (go_at_call 129; ((with_reducible refine (C.out _ (two_below _ _ _)).mono ?_); rintro e w1 ⟨rfl, b1⟩; have c0 := two_cell0 b1; have c2 := two_cells b1))
  go_ret
  exact ⟨rfl, below_two b1⟩
 ·have CS := Lib.hid (fun w => stop_any n w)
  generalize Fx.stop n = sn at *
  by_cases hn : n = sn
  ·have q := Ru.eq_t hn
   rw [decide_eq_true hn]
   clear hn
   go_enter Tryz.func134, Tryz.ntmps134
   go_wp2_with (go_at_call 129; ((with_reducible refine (C.out _ (two_below _ _ _)).mono ?_); rintro e w1 ⟨rfl, b1⟩; have c0 := two_cell0 b1; have c2 := two_cells b1))
   go_quiet ((go_at_call 180; exact Calls.quiet_of_same ((CS.out _).mono fun _ _ h => ⟨h.1, h.2.symm⟩)))
   go_wp2_with fail
   go_ret
   exact ⟨rfl, below_drewN (below_two b1) _⟩
  ·have q := Ru.eq_f hn
   rw [decide_eq_false hn]
   clear hn
   go_enter Tryz.func134, Tryz.ntmps134
   go_wp2_with (go_at_call 129; ((with_reducible refine (C.out _ (two_below _ _ _)).mono ?_); rintro e w1 ⟨rfl, b1⟩; have c0 := two_cell0 b1; have c2 := two_cells b1))
   go_quiet ((go_at_call 180; exact Calls.quiet_of_same ((CS.out _).mono fun _ _ h => ⟨h.1, h.2.symm⟩)))
   go_wp2_with fail
   go_ret
   exact ⟨rfl, below_drewN (below_two b1) _⟩
end Go.Proofs.YtkcabpjfgbghjaaGreatDoor
