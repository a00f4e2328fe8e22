/-
  The walk of the laws' awake.
-/
import Derived.Test.YtakafhjnkcilkaaDoorRuX
import Derived.Lib.SlBytesConst
namespace Go.Proofs.YtakafhjnkcilkaaDoor
open Go.RowKit

namespace Ru
def lit : List Int := [240, 159, 152, 65, 13, 10]
theorem lit_by : By lit := by unfold By lit; decide
theorem lit_rd : rd lit = [65533, 65, 10] := by decide
end Ru

def LitRead (w : World) (e : Ending) (w' : World) : Prop :=
  ∃ b cap : Nat, e = .returned (.slice (some ⟨b, 0, none⟩) 3 cap) ∧ w'.cell? ⟨b, 0, none⟩ = some (.int .i32 65533) ∧ w'.cell? ⟨b, 1, none⟩ = some (.int .i32 65) ∧ w'.cell? ⟨b, 2, none⟩ = some (.int .i32 10) ∧ Below w.heap.size w w'

theorem lit_read (w : World) (hT : Tab w.heap.size w) (o : Obj) (ho : o = .cells (nums .u8 Ru.lit).toArray 5 (6, 7)) :
    Calls Tryd.prog 13 #[.slice (some ⟨w.heap.size, 0, none⟩) 6 6] (w.alloc o) (LitRead w) := by
  have hb : Below w.heap.size w (w.alloc o) := (Below.refl _ _).alloc (Nat.le_refl _) _
  have hs : (w.alloc o).heap.size = w.heap.size + 1 := by simp
  have hT' := hT.below hb
  have hC := read_cons Ru.lit Ru.lit_by (by decide) w.heap.size 0 6 (w.alloc o) (by decide) (by decide) ⟨hT'.1, by have := hT'.2; omega⟩ (by omega) (fun j hj => by
    subst ho
    rw [Nat.zero_add, World.cell?_alloc_mark]
    have := nums_get (k := .u8) hj
    simpa using this)
  refine hC.mono ?_
  rintro e w' ⟨v, rfl, hown, hbel⟩
  rw [Ru.lit_rd] at hown
  obtain ⟨b, cap, rfl, _, hlt⟩ := hown.form (by decide)
  have hcell : ∀ j, j < 3 → w'.cell? ⟨b, j, none⟩ = some (.int .i32 (Ru.g [65533, 65, 10] j)) := fun j hj => by
    have := hown.cells (g := b) rfl j _ (nums_get (k := .i32) (l := [65533, 65, 10]) hj)
    rwa [Addr.add_lit, Nat.zero_add] at this
  exact ⟨b, cap, rfl, hcell 0 (by decide), hcell 1 (by decide), hcell 2 (by decide), hb.trans (hbel.mono (by omega))⟩

set_option maxHeartbeats 1000000 in
set_option maxRecDepth 100000 in
theorem awake_any (w : World) (hT : Tab w.heap.size w) :
    Calls Tryd.prog 10 #[] w fun e w' => e = .returned (.bool true) ∧ Below w.heap.size w w' := by
  have kc := fun (W : World) (C : Array Value) (n c : Nat) => Lib.run_convert_bytes_const (P := Tryd.prog) W 22 5 C n c Tryd.underlying22 Tryd.underlying5
  have CR := Lib.hid (lit_read w hT (.cells #[.int .u8 240, .int .u8 159, .int .u8 152, .int .u8 65, .int .u8 13, .int .u8 10] 5 (6, 7)) rfl)
  have h15 : Ru.hexV 102 = 15 := by decide
  have hbg : Ru.begB 95 = true := by decide
  clear hT
  go_enter Tryd.func10, Tryd.ntmps10
  go_wp2_with (first | (go_at_call 13; ((with_reducible refine (CR.out).mono ?_); rintro e w1 ⟨b, cap, rfl, c0, c1, c2, hb1⟩)) | (go_at_call 23; ((with_reducible refine (hex_any _ _).mono ?_); rintro e w2 ⟨rfl, rfl⟩)) | (go_at_call 19; ((with_reducible refine (begins_any _ _).mono ?_); rintro e w2 ⟨rfl, rfl⟩)))
  go_ret
  exact ⟨rfl, hb1⟩
end Go.Proofs.YtakafhjnkcilkaaDoor
