/-
  The walk of Lower.
-/
import Derived.Test.YtakafhjnkcilkaaDoorRuI
import Derived.Laws.IdiomStrings
import Derived.Laws.BytesArg
namespace Go.Proofs.YtakafhjnkcilkaaDoor
open Go.RowKit

namespace Ru
/-- a string's bytes, as numbers -/
def bs (s : ByteArray) : List Int := s.data.toList.map fun b => (b.toNat : Int)
def lowI (c : Int) : Int := if 65 ≤ c ∧ c ≤ 90 then c + 32 else c
/-- a text in small letters -/
def lowS (s : ByteArray) : ByteArray := strOfNums ((bs s).map lowI)
theorem bs_len (s : ByteArray) : (bs s).length = s.size := by unfold bs; rw [List.length_map, ← Lib.size_eq]
theorem bs_by (s : ByteArray) : By (bs s) := fun c hc => by
  unfold bs at hc
  obtain ⟨x, _, rfl⟩ := List.mem_map.1 hc
  have := x.toNat_lt
  omega
theorem bs_get (s : ByteArray) (k : Nat) (h : k < s.size) : g (bs s) k = (s[k].toNat : Int) := by
  rw [g_eq (by rw [bs_len]; exact h)]
  unfold bs
  rw [List.getElem_map]
  rfl
theorem bs_str {l : List Int} (h : By l) : bs (strOfNums l) = l := by
  unfold bs
  rw [strOfNums_data, List.map_map]
  apply List.ext_getElem
  · simp
  · intro i h1 h2
    simp only [List.getElem_map, Function.comp]
    have := h l[i] (List.getElem_mem h2)
    rw [UInt8.toNat_ofNat']
    omega
theorem low_by {l : List Int} (h : By l) : By (l.map lowI) := fun c hc => by
  obtain ⟨x, hx, rfl⟩ := List.mem_map.1 hc
  have := h x hx
  unfold lowI; split <;> omega
theorem bs_low (s : ByteArray) : bs (lowS s) = (bs s).map lowI := bs_str (low_by (bs_by s))
theorem lowS_size (s : ByteArray) : (lowS s).size = s.size := by unfold lowS; rw [strOfNums_size, List.length_map, bs_len]
theorem lowI_low (c : Int) : lowI (lowI c) = lowI c := by unfold lowI; repeat' split <;> omega
theorem lowS_low (s : ByteArray) : lowS (lowS s) = lowS s := by
  have : ((bs s).map lowI).map lowI = (bs s).map lowI := by
    rw [List.map_map]; exact List.map_congr_left fun c _ => lowI_low c
  show strOfNums ((bs (lowS s)).map lowI) = strOfNums ((bs s).map lowI)
  rw [bs_low, this]
theorem g_map {l : List Int} {k : Nat} (h : k < l.length) : g (l.map lowI) k = lowI (g l k) := by
  rw [g_eq (by simpa using h), g_eq h, List.getElem_map]
/-- k bytes are done -/
def part (l : List Int) (k : Nat) : List Int := (l.take k).map lowI ++ l.drop k
theorem part_len (l : List Int) (k : Nat) (h : k ≤ l.length) : (part l k).length = l.length := by unfold part; simp; omega
theorem part_g (l : List Int) (k j : Nat) (h : k ≤ l.length) : g (part l k) j = if j < k then lowI (g l j) else g l j := by
  unfold part
  by_cases hj : j < k
  · rw [if_pos hj, g_left (by simp; omega), g_map (by simp; omega)]
    unfold g
    rw [List.getD_eq_getElem?_getD, List.getD_eq_getElem?_getD, List.getElem?_take, if_pos hj]
  · rw [if_neg hj]
    unfold g
    rw [List.getD_eq_getElem?_getD, List.getD_eq_getElem?_getD, List.getElem?_append_right (by simp; omega), List.getElem?_drop]
    congr 2
    simp; omega
end Ru

/-- what '[]byte(s)' gives -/
theorem bytes_of (s : ByteArray) (w : World) : ∃ (C : Nat) (w0 : World), (convert 9 22 (.string s)).run Tryd.prog w = .ok (.slice (some ⟨w.heap.size, 0, none⟩) s.size C) w0 ∧
    (∀ j, j < s.size → w0.cell? ⟨w.heap.size, j, none⟩ = some (.int .u8 (Ru.g (Ru.bs s) j))) ∧ (∀ j, j < s.size → w0.frozen? ⟨w.heap.size, j, none⟩ = false) ∧ Below w.heap.size w w0 ∧ s.size ≤ C := by
  refine ⟨_, _, run_bytes_of_string w _ _ 5 s Tryd.underlying9 Tryd.underlying22 Tryd.underlying5, fun j hj => ?_, fun j hj => ?_, (Below.refl _ w).drew.alloc (Nat.le_refl _) _, grownCap_ge _ _ _ _⟩
  · have h := World.cell?_alloc_mark w.drew (bytesRow s (grownCap w s.size 0 5)) 5 ((bytesRow s (grownCap w s.size 0 5)).size, (bytesRow s (grownCap w s.size 0 5)).size + 1) j
    refine h.trans ?_
    rw [Ru.bs_get s j hj]
    unfold bytesRow
    rw [Array.getElem?_append_left (by simpa using hj)]
    simp only [Array.getElem?_map]
    rw [Array.getElem?_eq_getElem hj]
    rfl
  · have h := World.frozen?_alloc_mark w.drew (bytesRow s (grownCap w s.size 0 5)) 5 ((bytesRow s (grownCap w s.size 0 5)).size) ((bytesRow s (grownCap w s.size 0 5)).size + 1) j
    refine h.trans ?_
    have : j < (bytesRow s (grownCap w s.size 0 5)).size := by
      unfold bytesRow
      rw [Array.size_append, Array.size_map]
      have : s.data.size = s.size := rfl
      omega
    simp; omega

def LowAt (w : World) (s : ByteArray) (v10 : Value) (wr : World) : Prop :=
  ∃ k : Nat, k ≤ s.size ∧ v10 = .int .i64 k ∧ Hid (∀ j, j < s.size → wr.cell? ⟨w.heap.size, j, none⟩ = some (.int .u8 (Ru.g (Ru.part (Ru.bs s) k) j))) ∧ Hid (∀ j, j < s.size → wr.frozen? ⟨w.heap.size, j, none⟩ = false) ∧ Hid (Below w.heap.size w wr)

set_option maxHeartbeats 1000000 in
set_option maxRecDepth 100000 in
theorem lower_any (s : ByteArray) (w : World) (hm : s.size ≤ 65536) :
    Calls Tryd.prog 27 #[.string s] w fun e w' => e = .returned (.string (Ru.lowS s)) ∧ Below w.heap.size w w' := by
  obtain ⟨C, w0, hconv, hc, hz, hb, hC⟩ := bytes_of s w
  have HC := Lib.hid hc
  have HZ := Lib.hid hz
  have HB := Lib.hid hb
  clear hc hz hb
  go_enter Tryd.func27, Tryd.ntmps27
  go_wp2_with fail
  clear hconv
  go_loopw [10] (fun v10 wr => LowAt w s v10 wr) (fun v10 _ => s.size - (RowKit.intOf v10).toNat)
  case atStart => exact ⟨0, Nat.zero_le _, rfl, Lib.hid (fun j hj => by rw [Ru.part_g _ _ _ (Nat.zero_le _), if_neg (by omega)]; exact HC.out j hj), HZ, HB⟩
  case round =>
    obtain ⟨k, hk, rfl, hcs, hzs, hbel⟩ := hrel
    have hl : Hid ((Ru.bs s).length = s.size) := Lib.hid (Ru.bs_len s)
    clear HC HZ HB
    by_cases hlt : k < s.size
    · have hcell := hcs.out k hlt
      have hfz := hzs.out k hlt
      rw [Ru.part_g _ _ _ (by rw [hl.out]; omega), if_neg (by omega)] at hcell
      obtain ⟨y1, y2⟩ := (Ru.bs_by s).at_ k
      have hnext : Hid (∀ j, j < s.size → Ru.g (Ru.part (Ru.bs s) (k + 1)) j = if j = k then Ru.lowI (Ru.g (Ru.bs s) k) else Ru.g (Ru.part (Ru.bs s) k) j) := Lib.hid fun j hj => by
        rw [Ru.part_g _ _ _ (by rw [hl.out]; omega), Ru.part_g _ _ _ (by rw [hl.out]; omega)]
        by_cases e : j = k
        · subst e; rw [if_pos (by omega), if_pos rfl]
        · rw [if_neg e]
          by_cases h2 : j < k
          · rw [if_pos (by omega), if_pos h2]
          · rw [if_neg (by omega), if_neg h2]
      generalize Ru.g (Ru.bs s) k = x at *
      by_cases u1 : 65 ≤ x
      · by_cases u2 : x ≤ 90
        · have e32 : Hid (x - 65 + 97 = Ru.lowI x) := Lib.hid (by unfold Ru.lowI; rw [if_pos ⟨u1, u2⟩]; omega)
          go_wp2_with fail
          go_roundw
          case rel => exact ⟨k + 1, by omega, by go_num, Lib.hid (fun j hj => by
            rw [hnext.out j hj, ← e32.out]
            by_cases e : j = k
            · subst e; rw [if_pos rfl]; exact World.cell?_setCell_same _ _ _ hcell
            · rw [if_neg e, World.cell?_setCell_other _ _ _ _ (fun h => e (by injection h with _ h2; exact h2.symm))]; exact hcs.out j hj), Lib.hid (fun j hj => by rw [World.frozen?_setCell]; exact hzs.out j hj), Lib.hid (hbel.out.setCell (Nat.le_refl _) _)⟩
          case measure => simp [RowKit.intOf]; omega
        · have e32 : Hid (Ru.lowI x = x) := Lib.hid (by unfold Ru.lowI; rw [if_neg (by omega)])
          go_wp2_with fail
          go_roundw
          case rel => exact ⟨k + 1, by omega, by go_num, Lib.hid (fun j hj => by
            rw [hnext.out j hj, e32.out]
            by_cases e : j = k
            · subst e; rw [if_pos rfl]; exact hcell
            · rw [if_neg e]; exact hcs.out j hj), hzs, hbel⟩
          case measure => simp [RowKit.intOf]; omega
      · have e32 : Hid (Ru.lowI x = x) := Lib.hid (by unfold Ru.lowI; rw [if_neg (by omega)])
        go_wp2_with fail
        go_roundw
        case rel => exact ⟨k + 1, by omega, by go_num, Lib.hid (fun j hj => by
          rw [hnext.out j hj, e32.out]
          by_cases e : j = k
          · subst e; rw [if_pos rfl]; exact hcell
          · rw [if_neg e]; exact hcs.out j hj), hzs, hbel⟩
        case measure => simp [RowKit.intOf]; omega
    · obtain rfl : k = s.size := by omega
      have hback := run_convert_bytes_arg (P := Tryd.prog) wr 22 5 Tryd.underlying22 Tryd.underlying5 w.heap.size 0 s.size C ((Ru.bs s).map Ru.lowI) (by rw [List.length_map]; exact hl.out) (fun i hi => by
        rw [Nat.zero_add, hcs.out i hi, Ru.part_g _ _ _ (by rw [hl.out]; omega), if_pos (by omega)]
        have := Ru.g_map (l := Ru.bs s) (k := i) (by rw [hl.out]; exact hi)
        unfold Ru.g at this ⊢
        rw [this]) 9 Tryd.underlying9
      clear hcs hzs
      go_wp2_with fail
      go_ret
      exact ⟨rfl, hbel.out⟩
end Go.Proofs.YtakafhjnkcilkaaDoor
