/-
  The walk of nest's closes.
-/
import Derived.Test.YtpjdaenmfdcjhaaGae
import Derived.Test.YtpjdaenmfdcjhaaGab
import Derived.Deep.Cut
import Derived.Deep.CutRange
import Derived.Deep.RegionHeld3
import Derived.Deep.RegionWith
namespace Go.Proofs.Ytpjdaenmfdcjhaa
open Go.RowKit

/-- is the token the closing of the opening? -/
def Ns.shuts (u o : Tk.Tok) : Prop := u.1 = 13 ∧ Ns.clo o = u.2.1
instance (u o : Tk.Tok) : Decidable (Ns.shuts u o) := by unfold Ns.shuts; infer_instance
set_option maxHeartbeats 4000000 in
set_option maxRecDepth 100000 in
theorem closes_any (k : Int) (t : ByteArray) (n : Int) (k2 : Int) (t2 : ByteArray) (n2 : Int) (w : World) :
    Calls Try.prog 27 #[tokV k t n, tokV k2 t2 n2] w (Bo (decide (Ns.shuts (k, t, n) (k2, t2, n2))) w) := by
  obtain ⟨W0, hW⟩ : ∃ W0, W0 = (w.alloc (.cells #[.int .i64 k, .string t, .int .i64 n] 31)).alloc (.cells #[.int .i64 k2, .string t2, .int .i64 n2] 31) := ⟨_, rfl⟩
  have hb0 : Below w.heap.size w W0 := by rw [hW]; exact ((Below.refl _ _).alloc (Nat.le_refl _) _).alloc (by simp) _
  have k0 : W0.heap[w.heap.size]? = some (.cells #[.int .i64 k, .string t, .int .i64 n] 31 (0, 0)) := by
    rw [hW]; exact (Below.heap_alloc _ _ _ (by simp)).trans (heap_alloc_new w _)
  have k1 : W0.heap[w.heap.size + 1]? = some (.cells #[.int .i64 k2, .string t2, .int .i64 n2] 31 (0, 0)) := by
    rw [hW]
    have := heap_alloc_new (w.alloc (.cells #[.int .i64 k, .string t, .int .i64 n] 31)) (.cells #[.int .i64 k2, .string t2, .int .i64 n2] 31)
    rwa [show (w.alloc (.cells #[.int .i64 k, .string t, .int .i64 n] 31)).heap.size = w.heap.size + 1 by simp] at this
  have hz0 : w.heap.size + 1 < W0.heap.size := by rw [hW]; simp
  obtain ⟨p0, p1, p2⟩ := tok3_cells k0
  obtain ⟨q0, q1, q2⟩ := tok3_cells k1
  have HB0 := Lib.hid hb0
  have HW := Lib.hid hW.symm
  have CC : Hid (∀ W, Calls Try.prog 26 #[.agg #[.int .i64 k2, .string t2, .int .i64 n2]] W (Sg (Ns.clo (k2, t2, n2)) W)) := Lib.hid fun W => closing_any _ _ _ W
  clear hb0 k0 k1 hW
  unfold tokV
  by_cases h : k = 13
  · subst h
    have HV : Hid ((t.toList == (Ns.clo (k2, t2, n2)).toList) = decide (Ns.shuts (13, t, n) (k2, t2, n2))) := Lib.hid (by
      rw [str_same]
      exact decide_eq_decide.2 ⟨fun h => ⟨rfl, h.symm⟩, fun h => h.2.symm⟩)
    generalize Ns.clo (k2, t2, n2) = ct at *
    generalize decide (Ns.shuts (13, t, n) (k2, t2, n2)) = bv at *
    go_enter Try.func27, Try.ntmps27
    go_upto_region 1 with fail
    rw [HW.out]
    clear HW
    have hs0 : w.heap.size < W0.heap.size := by omega
    go_region_held3 (fun w' => w'.cell? ⟨w.heap.size, 0, none⟩ = some (.int .i64 13) ∧ w'.cell? ⟨w.heap.size, 1, none⟩ = some (.string t) ∧ w'.cell? ⟨w.heap.size + 1, 0, none⟩ = some (.int .i64 k2) ∧ w'.cell? ⟨w.heap.size + 1, 1, none⟩ = some (.string t2) ∧ w'.cell? ⟨w.heap.size + 1, 2, none⟩ = some (.int .i64 n2))
      (first | go_keep | (go_split_ands; exact ⟨(hb1.cell (p := ⟨w.heap.size, 0, none⟩) hs0).trans (by assumption), (hb1.cell (p := ⟨w.heap.size, 1, none⟩) hs0).trans (by assumption), (hb1.cell (p := ⟨w.heap.size + 1, 0, none⟩) hz0).trans (by assumption), (hb1.cell (p := ⟨w.heap.size + 1, 1, none⟩) hz0).trans (by assumption), (hb1.cell (p := ⟨w.heap.size + 1, 2, none⟩) hz0).trans (by assumption)⟩))
      (first | (go_at_call 26; refine (CC.out _).mono ?_; rintro e w2 ⟨rfl, hb1⟩))
    have HB2 := Lib.hid (below_next HB0.out ((Below.refl _ _).drew.trans hb1))
    clear hb1 p0 p1 p2 q0 q1 q2
    go_wp2_with fail
    go_ret
    exact ⟨by rw [← HV.out]; rfl, HB2.out⟩
  · have e : (k == 13) = false := beq_false_of_ne h
    have HV : Hid (decide (Ns.shuts (k, t, n) (k2, t2, n2)) = false) := Lib.hid (decide_eq_false fun c => h c.1)
    clear h
    go_enter Try.func27, Try.ntmps27
    go_upto_region 1 with fail
    rw [HW.out]
    clear HW
    go_quiet (fail)
    go_wp2_with fail
    go_ret
    exact ⟨by rw [HV.out]; rfl, below_drewN HB0.out _⟩
end Go.Proofs.Ytpjdaenmfdcjhaa
