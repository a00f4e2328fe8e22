/-
  The walk of the law PrintPairs.
-/
import Derived.Test.YtgcmjkimiakibaaGreatDoorGbj
namespace Go.Proofs.YtgcmjkimiakibaaGreatDoor
open Go.RowKit

abbrev tokO (u : Tk.Tok) : Obj := .cells #[.int .i64 u.1, .string u.2.1, .int .i64 u.2.2] 32
theorem two_ts (w : World) (u v : Tk.Tok) (E : TypeId) : Ts (w.alloc (.cells #[.int .i64 u.1, .string u.2.1, .int .i64 u.2.2, .int .i64 v.1, .string v.2.1, .int .i64 v.2.2] E)) (w.alloc (.cells #[.int .i64 u.1, .string u.2.1, .int .i64 u.2.2, .int .i64 v.1, .string v.2.1, .int .i64 v.2.2] E)).heap.size (some ⟨w.heap.size, 0, none⟩) [u, v] := fun _ => by
  refine ⟨w.heap.size, 0, rfl, by simp, fun j hj => ?_⟩
  have : j = 0 ∨ j = 1 := by simp at hj; omega
  rcases this with rfl | rfl
  · refine ⟨?_, ?_, ?_⟩ <;> (rw [World.cell?_alloc_mark]; rfl)
  · refine ⟨?_, ?_, ?_⟩ <;> (rw [World.cell?_alloc_mark]; rfl)
namespace Pr
theorem two_wf {u v : Tk.Tok} (hu : I64 u.1 ∧ I64 u.2.2) (hv : I64 v.1 ∧ I64 v.2.2) : Wf [u, v] := fun j hj => by
  have : j = 0 ∨ j = 1 := by simp at hj; omega
  rcases this with rfl | rfl
  · exact hu
  · exact hv
theorem two_bad {u v : Tk.Tok} (h : RightU [u, v]) : v.1 ≠ 7 := fun e => by
  have := (h.2 1 (by simp)).2
  have e2 : Tk.tk [u, v] 1 = v := rfl
  rw [e2, e] at this
  unfold stnB at this
  rw [if_neg (by decide), if_pos rfl] at this
  have := of_decide_eq_true this
  unfold nxK at this
  rw [if_neg (by simp)] at this
  cases this
end Pr
set_option maxHeartbeats 8000000 in
set_option maxRecDepth 100000 in
theorem pairs_any (u v : Tk.Tok) (hu : I64 u.1 ∧ I64 u.2.2) (hv : I64 v.1 ∧ I64 v.2.2) (w : World) (hT : PTab w.heap.size w) :
    Calls Tryz.prog 5 #[tokV u.1 u.2.1 u.2.2, tokV v.1 v.2.1 v.2.2] w (Bo true w) := by
  have hwf := Pr.two_wf hu hv
  obtain ⟨W1, hW1⟩ : ∃ W1, W1 = (w.alloc (tokO u)).alloc (tokO v) := ⟨_, rfl⟩
  have hb1 : Below w.heap.size w W1 := by rw [hW1]; exact ((Below.refl _ _).alloc (Nat.le_refl _) _).alloc (by simp) _
  obtain ⟨W0, hW⟩ : ∃ W0, W0 = W1.alloc (.cells #[.int .i64 u.1, .string u.2.1, .int .i64 u.2.2, .int .i64 v.1, .string v.2.1, .int .i64 v.2.2] 32) := ⟨_, rfl⟩
  have hb2 : Below W1.heap.size W1 W0 := by rw [hW]; exact (Below.refl _ _).alloc (Nat.le_refl _) _
  have h : Ts W0 W0.heap.size (some ⟨W1.heap.size, 0, none⟩) [u, v] := by rw [hW]; exact two_ts W1 u v _
  have hsz : W1.heap.size = w.heap.size + 1 + 1 := by rw [hW1]; simp
  have hk1 : W1.heap[w.heap.size + 1]? = some (.cells #[.int .i64 v.1, .string v.2.1, .int .i64 v.2.2] 32 (0, 0)) := by
    rw [hW1]
    have := heap_alloc_new (w.alloc (tokO u)) (tokO v)
    simpa using this
  have HK := Lib.hid (below_block hb2 hk1)
  have HB0 := Lib.hid (below_next hb1 hb2)
  have CA : Hid (∀ W, Below W0.heap.size W0 W → Calls Tryz.prog 8 #[] W (Bo true W)) := Lib.hid fun W hb => awake_any W (hT.next (below_next HB0.out hb))
  have hWW : ((w.alloc (.cells #[.int .i64 u.1, .string u.2.1, .int .i64 u.2.2] 32)).alloc (.cells #[.int .i64 v.1, .string v.2.1, .int .i64 v.2.2] 32)).alloc (.cells #[.int .i64 u.1, .string u.2.1, .int .i64 u.2.2, .int .i64 v.1, .string v.2.1, .int .i64 v.2.2] 32) = W0 := by rw [hW, hW1]
  have HWW := Lib.hid hWW
  have HS := Lib.hid hsz
  clear hW hW1 hWW hsz
  unfold tokV
  by_cases hF : Pr.Fair [u, v]
  · have CF : Hid (Calls Tryz.prog 6 #[.slice (some ⟨W1.heap.size, 0, none⟩) 2 2] W0 fun e w' => e = .returned (.bool true) ∧ W0 = w') := Lib.hid (few_any [u, v] (by simp) true (by simp [hF]) (some ⟨W1.heap.size, 0, none⟩) 2 W0 h)
    by_cases hR : Pr.RightU [u, v]
    · have h7 : (v.1 == 7) = false := Ru.eq_f (Pr.two_bad hR)
      have CR : Hid (Calls Tryz.prog 7 #[.slice (some ⟨W1.heap.size, 0, none⟩) 2 2] W0 (Bo true W0)) := Lib.hid (rright_any [u, v] hF true (by simp [hR]) (some ⟨W1.heap.size, 0, none⟩) 2 W0 h)
      obtain ⟨X, hx1, hx2⟩ := print_scan [u, v] hF hwf hR
      have CP : Hid (∀ W, Below W0.heap.size W0 W → Calls Tryz.prog 10 #[.slice (some ⟨W1.heap.size, 0, none⟩) 2 2] W (Sg X W)) := Lib.hid fun W hb => hx1 (some ⟨W1.heap.size, 0, none⟩) 2 W (by simp) (h.next hb) (hT.next (below_next HB0.out hb))
      have CX : Hid (∀ W, Below W0.heap.size W0 W → ∃ (C n : Nat) (w0 : World), (convert 9 28 (.string X)).run Tryz.prog W = .ok (.slice (some ⟨W.heap.size, 0, none⟩) n C) w0 ∧
        Hid (Below W.heap.size W w0) ∧ Hid (Calls Tryz.prog 9 #[.slice (some ⟨W.heap.size, 0, none⟩) n C] w0 (Scd [u, v] W))) := Lib.hid fun W hb => hx2 W (hT.next (below_next HB0.out hb))
      have CS : Hid (∀ (A2 : Option Addr) (c2 : Nat) (W : World), Below W0.heap.size W0 W → Ts W W.heap.size A2 [u, v] → Calls Tryz.prog 11 #[.slice A2 2 c2, .slice (some ⟨W1.heap.size, 0, none⟩) 2 2] W (Bo true W)) := Lib.hid fun A2 c2 W hb h2 => same_all [u, v] [u, v] true (by simp) A2 (some ⟨W1.heap.size, 0, none⟩) c2 2 W (by simp) (by simp) h2 (h.next hb)
      clear hx1 hx2 h hT hwf hF hR hu hv hb1 hb2 hk1
      go_enter Tryz.func5, Tryz.ntmps5
      go_upto_region 2 with fail
      rw [HWW.out, ← HS.out]
      clear HWW HS
      go_wp2_with (first | (go_at_call 6; ((with_reducible refine (CF.out).mono ?_); rintro e w1 ⟨rfl, rfl⟩)) | (go_at_call 7; ((with_reducible refine (CR.out).mono ?_); rintro e w2 ⟨rfl, b2⟩; have HB2 := Lib.hid b2; have HK2 := Lib.hid (below_block b2 HK.out); obtain ⟨r0, r1, r2⟩ := tok3_cells HK2.out; have C2 := Lib.hid (CP.out _ b2); clear b2 CR)) | (go_at_call 10; ((with_reducible refine (C2.out).mono ?_); rintro e w3 ⟨rfl, b3⟩; have HB3 := Lib.hid (below_next HB2.out b3); obtain ⟨C9, n9, w4, hcv, hb4, HSC⟩ := CX.out w3 HB3.out; clear b3 C2)) | (go_at_call 9; ((with_reducible refine (HSC.out).mono ?_); rintro e w5 ⟨A5, c5, rfl, hc5, T5, b5⟩; have HB5 := Lib.hid (below_next HB3.out b5); have C5 := Lib.hid (CS.out A5 c5 w5 HB5.out T5); clear b5 T5)) | (go_at_call 11; ((with_reducible refine (C5.out).mono ?_); rintro e w6 ⟨rfl, b6⟩; have HB6 := Lib.hid (below_next HB5.out b6); have C6 := Lib.hid (CA.out _ HB6.out); clear b6)) | (go_at_call 8; ((with_reducible refine (C6.out).mono ?_); rintro e w7 ⟨rfl, b7⟩; have HB7 := Lib.hid (below_next HB6.out b7); clear b7)))
      go_ret
      exact ⟨rfl, below_next HB0.out HB7.out⟩
    · have CR : Hid (Calls Tryz.prog 7 #[.slice (some ⟨W1.heap.size, 0, none⟩) 2 2] W0 (Bo false W0)) := Lib.hid (rright_any [u, v] hF false (by simp [hR]) (some ⟨W1.heap.size, 0, none⟩) 2 W0 h)
      clear hF h hT hwf hR hu hv hb1 hb2 hk1
      go_enter Tryz.func5, Tryz.ntmps5
      go_upto_region 2 with fail
      rw [HWW.out, ← HS.out]
      clear HWW HS
      go_wp2_with (first | (go_at_call 6; ((with_reducible refine (CF.out).mono ?_); rintro e w1 ⟨rfl, rfl⟩)) | (go_at_call 7; ((with_reducible refine (CR.out).mono ?_); rintro e w2 ⟨rfl, b2⟩; have HB2 := Lib.hid b2; have C6 := Lib.hid (CA.out _ b2); clear b2 CR)) | (go_at_call 8; ((with_reducible refine (C6.out).mono ?_); rintro e w7 ⟨rfl, b7⟩; have HB7 := Lib.hid (below_next HB2.out b7); clear b7)))
      go_ret
      exact ⟨rfl, below_next HB0.out HB7.out⟩
  · have CF : Hid (Calls Tryz.prog 6 #[.slice (some ⟨W1.heap.size, 0, none⟩) 2 2] W0 fun e w' => e = .returned (.bool false) ∧ W0 = w') := Lib.hid (few_any [u, v] (by simp) false (by simp [hF]) (some ⟨W1.heap.size, 0, none⟩) 2 W0 h)
    have C6 := Lib.hid (CA.out _ (Below.refl _ _))
    clear hF h hT hb1 hb2 hk1
    go_enter Tryz.func5, Tryz.ntmps5
    go_upto_region 2 with fail
    rw [HWW.out, ← HS.out]
    clear HWW HS
    go_wp2_with (first | (go_at_call 6; ((with_reducible refine (CF.out).mono ?_); rintro e w1 ⟨rfl, rfl⟩)) | (go_at_call 8; ((with_reducible refine (C6.out).mono ?_); rintro e w7 ⟨rfl, b7⟩; have HB7 := Lib.hid (below_next (Below.refl _ _) b7); clear b7)))
    go_ret
    exact ⟨rfl, below_next HB0.out HB7.out⟩
end Go.Proofs.YtgcmjkimiakibaaGreatDoor
