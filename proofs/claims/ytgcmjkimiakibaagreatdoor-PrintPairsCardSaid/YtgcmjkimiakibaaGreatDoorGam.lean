/-
  The walks of print's kinds' bodies.
-/
import Derived.Test.YtgcmjkimiakibaaGreatDoorGak
import Derived.Test.YtgcmjkimiakibaaGreatDoorGal
import Derived.Deep.RegionWith
import Derived.Deep.RegionHeld3
namespace Go.Proofs.YtgcmjkimiakibaaGreatDoor
open Go.RowKit

/-- a text, and new memory at most -/
def Sg (t : ByteArray) (w : World) (e : Ending) (w' : World) : Prop := e = .returned (.string t) ∧ Below w.heap.size w w'
theorem one_below {w w1 : World} {o : Obj} (h : Below (w.alloc o).heap.size (w.alloc o) w1) : Below w.heap.size w w1 := ((Below.refl _ _).alloc (Nat.le_refl _) o).trans (h.mono (by simp))
theorem PTab.alloc {w : World} (h : PTab w.heap.size w) (o : Obj) : PTab (w.alloc o).heap.size (w.alloc o) := h.next ((Below.refl _ _).alloc (Nat.le_refl _) o)
theorem nC_str {n : Int} {t : ByteArray} (h : Spells (Fx.text n) t) : t = Tk.str (Pr.nC n) := by
  apply Pr.bs_inj
  rw [Pr.str_bs, Pr.wr_asc' (fun c hc => by have := Pr.nC_chr n c hc; omega)]
  unfold Spells at h
  unfold Ru.bs Pr.nC
  rw [h]
theorem number_str (n : Int) (w : World) (hT : PTab w.heap.size w) : Calls Tryz.prog 52 #[.int .i64 n] w (Sg (Tk.str (Pr.nC n)) w) := by
  refine (print_any n w.heap.size w (Nat.le_refl _) hT.t).mono ?_
  rintro e w' ⟨t, rfl, hs, _, hb⟩
  exact ⟨by rw [nC_str hs.out], hb⟩

namespace Pr
theorem nC_len (n : Int) : (nC n).length ≤ 40 := by
  have h1 := Fx.stop_lo n
  have h2 := Fx.stop_hi n
  have hl := Lib.itoa_length_le (((Fx.stop n).natAbs / 1000 : Nat) : Int) (by omega) (by omega)
  rw [Lib.itoa_nonneg] at hl
  unfold nC
  rw [List.length_map]
  unfold Fx.text Fx.textOf
  rw [List.length_append, List.length_append]
  have h3 : (if decide (Fx.stop n < 0) = true then [(45 : UInt8)] else []).length ≤ 1 := by split <;> simp
  have h4 : (if (Fx.stop n).natAbs % 1000 = 0 then [] else 46 :: Fx.frac ((Fx.stop n).natAbs % 1000)).length ≤ 4 := by
    split
    · simp
    · rename_i h0
      have := (Fx.frac_facts (r := (Fx.stop n).natAbs % 1000) (by omega) h0).2.2.1
      simp; omega
  omega
end Pr
set_option maxRecDepth 100000 in
theorem text_body (kd n : Int) (t : ByteArray) (w : World) : Calls Tryz.prog 46 #[tokV kd t n] w (Sg t w) := by
  unfold tokV
  go_enter Tryz.func46, Tryz.ntmps46
  go_wp2_with fail
  go_ret
  exact ⟨rfl, (Below.refl _ _).alloc (Nat.le_refl _) _⟩
set_option maxRecDepth 100000 in
theorem name_body (kd n : Int) (t : ByteArray) (cs : List Int) (h : Pr.Txt t cs) (hm : t.size ≤ 10000) (w : World) (hT : PTab w.heap.size w) : Calls Tryz.prog 47 #[tokV kd t n] w (Sg (Tk.str (Pr.nm false cs)) w) := by
  have C := Lib.hid (spell_any false t cs h hm _ (hT.alloc (.cells #[.int .i64 kd, .string t, .int .i64 n] 32)))
  unfold tokV
  clear hT h
  go_enter Tryz.func47, Tryz.ntmps47
  go_wp2_with (go_at_call 48; ((with_reducible refine (C.out).mono ?_); rintro e w1 ⟨rfl, b1⟩))
  go_ret
  exact ⟨rfl, one_below b1⟩
set_option maxRecDepth 100000 in
theorem inner_body (kd n : Int) (t : ByteArray) (cs : List Int) (h : Pr.Txt t cs) (hm : t.size ≤ 10000) (w : World) (hT : PTab w.heap.size w) : Calls Tryz.prog 49 #[tokV kd t n] w (Sg (Tk.str (Pr.enq cs)) w) := by
  have C := Lib.hid (enquote_any t cs h hm _ (hT.alloc (.cells #[.int .i64 kd, .string t, .int .i64 n] 32)))
  unfold tokV
  clear hT h
  go_enter Tryz.func49, Tryz.ntmps49
  go_wp2_with (go_at_call 50; ((with_reducible refine (C.out).mono ?_); rintro e w1 ⟨rfl, b1⟩))
  go_ret
  exact ⟨rfl, one_below b1⟩
set_option maxRecDepth 100000 in
theorem number_body (kd n : Int) (t : ByteArray) (w : World) (hT : PTab w.heap.size w) : Calls Tryz.prog 51 #[tokV kd t n] w (Sg (Tk.str (Pr.nC n)) w) := by
  have C := Lib.hid (number_str n _ (hT.alloc (.cells #[.int .i64 kd, .string t, .int .i64 n] 32)))
  unfold tokV
  clear hT
  go_enter Tryz.func51, Tryz.ntmps51
  go_wp2_with (go_at_call 52; ((with_reducible refine (C.out).mono ?_); rintro e w1 ⟨rfl, b1⟩))
  go_ret
  exact ⟨rfl, one_below b1⟩
set_option maxHeartbeats 1000000 in
set_option maxRecDepth 100000 in
theorem both_body (kd n : Int) (t : ByteArray) (cs : List Int) (h : Pr.Txt t cs) (hm : t.size ≤ 10000) (c : Nat) (w : World) (hc : w.heap[c]? = some (.cells #[fNumber] 34 (0, 0))) (hT : PTab w.heap.size w) :
    Calls Tryz.prog 53 #[tokV kd t n, .pointer (some ⟨c, 0, none⟩)] w (Sg (Tk.str (Pr.nC n ++ Pr.nm true cs)) w) := by
  have hlt : c < w.heap.size := by
    by_cases q : c < w.heap.size
    · exact q
    · rw [Array.getElem?_eq_none (by omega)] at hc; cases hc
  have hcell : w.cell? ⟨c, 0, none⟩ = some fNumber := by simp [World.cell?, hc]
  obtain ⟨W0, hW⟩ : ∃ W0, W0 = w.alloc (.cells #[.int .i64 kd, .string t, .int .i64 n] 32) := ⟨_, rfl⟩
  have hb0 : Below w.heap.size w W0 := by rw [hW]; exact (Below.refl _ _).alloc (Nat.le_refl _) _
  have hs0 : w.heap.size < W0.heap.size := by rw [hW]; simp
  have k0 : W0.cell? ⟨w.heap.size, 0, none⟩ = some (.int .i64 kd) := by rw [hW, World.cell?_alloc_mark]; rfl
  have k1 : W0.cell? ⟨w.heap.size, 1, none⟩ = some (.string t) := by rw [hW, World.cell?_alloc_mark]; rfl
  have k2 : W0.cell? ⟨w.heap.size, 2, none⟩ = some (.int .i64 n) := by rw [hW, World.cell?_alloc_mark]; rfl
  have kc : W0.cell? ⟨c, 0, none⟩ = some fNumber := (hb0.cell (p := ⟨c, 0, none⟩) hlt).trans hcell
  have HT := Lib.hid (hT.next hb0)
  have C1 : Hid (Calls Tryz.prog 51 #[.agg #[.int .i64 kd, .string t, .int .i64 n]] W0.drew (Sg (Tk.str (Pr.nC n)) W0.drew)) := Lib.hid (number_body kd n t W0.drew (HT.out.next (Below.refl _ _).drew))
  have C2 : Hid (∀ w1, Below W0.heap.size W0 w1 → Calls Tryz.prog 48 #[.string t, .bool true] w1 (Sg (Tk.str (Pr.nm true cs)) w1)) := Lib.hid fun w1 hw => spell_any true t cs h hm w1 (HT.out.next hw)
  have HJ : Hid (Tk.str (Pr.nC n) ++ Tk.str (Pr.nm true cs) = Tk.str (Pr.nC n ++ Pr.nm true cs)) := Lib.hid (Pr.str_app _ _).symm
  have hz1 : (Tk.str (Pr.nC n)).size ≤ 1000000 := by
    have h1 := Pr.nC_len n
    rw [← Ru.bs_len, Pr.str_bs, Pr.wr_asc' (fun c hc => by have := Pr.nC_chr n c hc; omega)]
    omega
  have hz2 : (Tk.str (Pr.nm true cs)).size ≤ 1000000 := by
    have h1 := Pr.nmT_len true cs h.2 cs.length (Nat.le_refl _)
    have h2 := Pr.wr_len_ge cs
    rw [← Pr.txt_size h] at h2
    rw [← Ru.bs_len, Pr.str_bs]
    show (Ru.wr (Pr.nmT true cs cs.length)).length ≤ _
    omega
  generalize Tk.str (Pr.nC n) = x1 at *
  generalize Tk.str (Pr.nm true cs) = x2 at *
  generalize Tk.str (Pr.nC n ++ Pr.nm true cs) = x3 at *
  unfold tokV
  have HB0 := Lib.hid hb0
  clear hc hcell hT h hb0
  go_enter Tryz.func53, Tryz.ntmps53
  go_upto_region 1 with fail
  rw [← hW]
  clear hW
  go_region_with (first | (go_at_call 51; ((with_reducible refine (C1.out).mono ?_); rintro e w1 ⟨rfl, b1⟩; have q1 := (b1.cell (p := ⟨w.heap.size, 1, none⟩) hs0).trans k1; have HB1 := Lib.hid ((Below.refl W0.heap.size W0).drew.trans b1))) | (go_at_call 48; ((with_reducible refine (C2.out _ HB1.out).mono ?_); rintro e w2 ⟨rfl, b2⟩)))
  all_goals
    go_wp2_with fail
    go_ret
    exact ⟨by rw [HJ.out]; rfl, HB0.out.trans ((HB1.out.trans (b2.mono HB1.out.size)).mono HB0.out.size)⟩
end Go.Proofs.YtgcmjkimiakibaaGreatDoor
