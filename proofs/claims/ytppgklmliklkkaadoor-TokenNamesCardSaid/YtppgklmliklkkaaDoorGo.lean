/-
  A string's bytes, as numbers; what '[]byte(s)' gives.
-/
import Derived.Test.YtppgklmliklkkaaDoorGh
import Derived.Lib.Strings
import Derived.Laws.IdiomStrings
import Derived.Laws.BytesArg
namespace Go.Proofs.YtppgklmliklkkaaDoor
open Go.RowKit

namespace Ru
/-- a string's bytes, as numbers -/
def bs (s : ByteArray) : List Int := s.data.toList.map fun b => (b.toNat : Int)
theorem bs_len (s : ByteArray) : (bs s).length = s.size := by unfold bs; rw [List.length_map, ← Lib.size_eq]
theorem bs_by (s : ByteArray) : By (bs s) := fun c hc => by
  unfold bs at hc
  obtain ⟨x, _, rfl⟩ := List.mem_map.1 hc
  have := x.toNat_lt
  omega
theorem bs_get (s : ByteArray) (k : Nat) (h : k < s.size) : g (bs s) k = (s[k].toNat : Int) := by
  rw [g_eq (by rw [bs_len]; exact h)]
  unfold bs
  rw [List.getElem_map]
  rfl
theorem bs_str {l : List Int} (h : By l) : bs (strOfNums l) = l := by
  unfold bs
  rw [strOfNums_data, List.map_map]
  apply List.ext_getElem
  · simp
  · intro i h1 h2
    simp only [List.getElem_map, Function.comp]
    have := h l[i] (List.getElem_mem h2)
    rw [UInt8.toNat_ofNat']
    omega
end Ru

/-- what '[]byte(s)' gives -/
theorem bytes_of (s : ByteArray) (w : World) : ∃ (C : Nat) (w0 : World), (convert 9 22 (.string s)).run Tryd.prog w = .ok (.slice (some ⟨w.heap.size, 0, none⟩) s.size C) w0 ∧
    (∀ j, j < s.size → w0.cell? ⟨w.heap.size, j, none⟩ = some (.int .u8 (Ru.g (Ru.bs s) j))) ∧ (∀ j, j < s.size → w0.frozen? ⟨w.heap.size, j, none⟩ = false) ∧ Below w.heap.size w w0 ∧ s.size ≤ C := by
  refine ⟨_, _, run_bytes_of_string w _ _ 5 s Tryd.underlying9 Tryd.underlying22 Tryd.underlying5, fun j hj => ?_, fun j hj => ?_, (Below.refl _ w).drew.alloc (Nat.le_refl _) _, grownCap_ge _ _ _ _⟩
  · have h := World.cell?_alloc_mark w.drew (bytesRow s (grownCap w s.size 0 5)) 5 ((bytesRow s (grownCap w s.size 0 5)).size, (bytesRow s (grownCap w s.size 0 5)).size + 1) j
    refine h.trans ?_
    rw [Ru.bs_get s j hj]
    unfold bytesRow
    rw [Array.getElem?_append_left (by simpa using hj)]
    simp only [Array.getElem?_map]
    rw [Array.getElem?_eq_getElem hj]
    rfl
  · have h := World.frozen?_alloc_mark w.drew (bytesRow s (grownCap w s.size 0 5)) 5 ((bytesRow s (grownCap w s.size 0 5)).size) ((bytesRow s (grownCap w s.size 0 5)).size + 1) j
    refine h.trans ?_
    have : j < (bytesRow s (grownCap w s.size 0 5)).size := by
      unfold bytesRow
      rw [Array.size_append, Array.size_map]
      have : s.data.size = s.size := rfl
      omega
    simp; omega

end Go.Proofs.YtppgklmliklkkaaDoor
