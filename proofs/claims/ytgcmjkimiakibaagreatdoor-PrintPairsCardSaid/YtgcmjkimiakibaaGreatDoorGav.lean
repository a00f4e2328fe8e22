/-
  The walks of the reference's in, letter, hex and escape.
-/
import Derived.Test.YtgcmjkimiakibaaGreatDoorGam
import Derived.Test.YtgcmjkimiakibaaGreatDoorGat
import Derived.LoopTactic
import Derived.IntWalk
import Derived.Test.YtgcmjkimiakibaaGreatDoorGae
namespace Go.Proofs.YtgcmjkimiakibaaGreatDoor
open Go.RowKit

theorem fresh_bs' {k : IntKind} {l : List Int} {b : Nat} {w' : World} (h : ∀ j u, (nums k l)[j]? = some u → w'.cell? ((⟨b, 0, none⟩ : Addr).add j) = some u) (h0 : 0 < l.length) : Bs w' w'.heap.size k (some ⟨b, 0, none⟩) l := fun _ => by
  refine ⟨b, 0, rfl, ?_, fun j hj => ?_⟩
  · have := h 0 _ (nums_get h0)
    exact World.block_lt_of_cell? w' _ (by rw [Addr.add_lit] at this; exact this)
  · have := h j _ (nums_get hj)
    rw [Addr.add_lit] at this
    exact this
theorem conv_back1 {W : World} {b : Nat} {x : Int} (h : W.cell? ⟨b, 0, none⟩ = some (.int .u8 x)) : (convert 28 9 (.slice (some ⟨b, 0, none⟩) 1 1)).run Tryz.prog W = .ok (.string (strOfNums [x])) W :=
  conv_bytes (w := W) (B := b + 1) (l := [x]) 1 (fun _ => ⟨b, 0, rfl, by omega, fun j hj => by
    rw [show j = 0 by simp at hj; omega]
    exact h⟩)
/-- a row that is made where it stands reads as its numbers -/
theorem lit_bs (w : World) (l : List Int) (E : TypeId) : Bs (w.alloc (.cells (nums .i64 l).toArray E)) (w.heap.size + 1) .i64 (some ⟨w.heap.size, 0, none⟩) l := fun _ => by
  refine ⟨w.heap.size, 0, rfl, by omega, fun j hj => ?_⟩
  have h := nums_get (k := .i64) hj
  rw [cell_of_row _ _ _ (nums .i64 l).toArray E (0, 0) (heap_alloc_new w _)]
  simpa using h
theorem str_size (l : List Int) : (Tk.str l).size = (Ru.wr l).length := by rw [← Ru.bs_len, Pr.str_bs]
theorem g_in {l : List Int} {c : Int} : c ∈ l ↔ ∃ j, j < l.length ∧ Ru.g l j = c := by
  rw [List.mem_iff_getElem]
  constructor
  · rintro ⟨j, hj, e⟩; exact ⟨j, hj, by rw [Ru.g_eq hj]; exact e⟩
  · rintro ⟨j, hj, e⟩; exact ⟨j, hj, by rw [← Ru.g_eq hj]; exact e⟩
set_option maxHeartbeats 2000000 in
theorem in_any (l : List Int) (c : Int) (A : Option Addr) (cap B : Nat) (w : World) (h : Bs w B .i64 A l) (hl : l.length ≤ 100000) (b : Bool) (hb : b = true ↔ c ∈ l) :
    Calls Tryz.prog 26 #[.slice A l.length cap, .int .i64 c] w fun e w' => e = .returned (.bool b) ∧ w = w' := by
  have H := Lib.hid h
  have HB := Lib.hid (hb.trans g_in)
  clear h hb
  go_enter Tryz.func26, Tryz.ntmps26
  go_wp2_with fail
  go_loopw [5] (fun v5 wr => ∃ k : Nat, k ≤ l.length ∧ v5 = .int .i64 k ∧ Hid (∀ j, j < k → Ru.g l j ≠ c) ∧ wr = w) (fun v5 _ => l.length - (RowKit.intOf v5).toNat)
  case atStart => exact ⟨0, Nat.zero_le _, rfl, Lib.hid (fun j hj => by omega), rfl⟩
  case round =>
    obtain ⟨k, hk, rfl, HK, rfl⟩ := hrel
    by_cases hlt : k < l.length
    · obtain ⟨bb, off, rfl, _, hp⟩ := H.out (by omega)
      have hc := hp k hlt
      clear hp
      by_cases he : Ru.g l k = c
      · have HE := Lib.hid (HB.out.2 ⟨k, hlt, he⟩)
        have he' : (Ru.g l k == c) = true := by rw [he]; exact beq_self_eq_true c
        go_wp2_with fail
        go_ret
        exact ⟨by rw [HE.out]; rfl, rfl⟩
      · have he' : (Ru.g l k == c) = false := by rw [beq_eq_false_iff_ne]; exact he
        have HE := Lib.hid he
        clear he
        go_wp2_with fail
        go_roundw
        case rel =>
          refine ⟨k + 1, hlt, rfl, Lib.hid (fun j hj => ?_), trivial⟩
          by_cases e : j = k
          · subst e; exact HE.out
          · exact HK.out j (by omega)
        case measure => show l.length - (k + 1) < l.length - k; omega
    · have HN : b = false := by
        cases b with
        | false => rfl
        | true =>
          obtain ⟨j, hj, e⟩ := HB.out.1 rfl
          exact absurd e (HK.out j (by omega))
      subst HN
      go_wp2_with fail
      go_ret
      exact ⟨rfl, rfl⟩
end Go.Proofs.YtgcmjkimiakibaaGreatDoor

/-
  The walk of the reference's Stop.
-/
namespace Go.Proofs.YtgcmjkimiakibaaGreatDoor
open Go.RowKit

set_option maxHeartbeats 400000 in
theorem rstop_any (n : Int) (w : World) :
    Calls Tryz.prog 27 #[.int .i64 n] w fun e w' => e = .returned (.int .i64 (Fx.stop n)) ∧ w = w' := by
  go_enter Tryz.func27, Tryz.ntmps27
  go_wp2
  all_goals (go_ret; exact ⟨ret_int (by unfold Fx.stop; omega), rfl⟩)

theorem rstop_min (n : Int) (w : World) (h : 0 ≤ n) :
    Calls Tryz.prog 27 #[.int .i64 n] w fun e w' => e = .returned (.int .i64 (min n 1099511627776)) ∧ w = w' := by
  refine (rstop_any n w).mono ?_
  rintro e w' ⟨he, hw⟩
  refine ⟨?_, hw⟩
  rw [he]; exact ret_int (by unfold Fx.stop; omega)

end Go.Proofs.YtgcmjkimiakibaaGreatDoor
