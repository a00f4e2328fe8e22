/-
  The walk of the law PrintOne.
-/
import Derived.Test.YtgcmjkimiakibaaGreatDoorGbj
namespace Go.Proofs.YtgcmjkimiakibaaGreatDoor
open Go.RowKit

theorem one_ts (w : World) (k n : Int) (t : ByteArray) (E : TypeId) : Ts (w.alloc (.cells #[.int .i64 k, .string t, .int .i64 n] E)) (w.alloc (.cells #[.int .i64 k, .string t, .int .i64 n] E)).heap.size (some ⟨w.heap.size, 0, none⟩) [(k, t, n)] := fun _ => by
  refine ⟨w.heap.size, 0, rfl, by simp, fun j hj => ?_⟩
  obtain rfl : j = 0 := by simp at hj; omega
  refine ⟨?_, ?_, ?_⟩ <;> (rw [World.cell?_alloc_mark]; rfl)
theorem ts_far {w : World} {b0 : Nat} {n : Int} {t : ByteArray} {A : Option Addr} {E : TypeId} (h : Ts w w.heap.size A [(6, t, n)]) (hk : w.heap[b0]? = some (.cells #[.int .i64 7, .string t, .int .i64 n] E (0, 0))) (v : Value) :
    Ts (w.setCell ⟨b0, 0, none⟩ v) (w.setCell ⟨b0, 0, none⟩ v).heap.size A [(6, t, n)] := fun h0 => by
  obtain ⟨bb, off, rfl, hbb, hp⟩ := h h0
  have hne : bb ≠ b0 := by
    rintro rfl
    obtain ⟨p0, p1, p2⟩ := hp 0 (by simp)
    have c := fun i => cell_of_row w bb i _ _ (0, 0) hk
    rw [c] at p0 p1
    match off, p0, p1 with
    | 0, p0, _ => simp [Tk.tk] at p0
    | 1, p0, _ => simp at p0
    | _ + 2, _, p1 => simp at p1
  refine ⟨bb, off, rfl, by simpa [World.setCell] using hbb, fun j hj => ?_⟩
  obtain ⟨p0, p1, p2⟩ := hp j hj
  have hc : ∀ o, (w.setCell ⟨b0, 0, none⟩ v).cell? ⟨bb, o, none⟩ = w.cell? ⟨bb, o, none⟩ := fun o => World.cell?_setCell_other _ _ _ _ (fun e => hne (by cases e; rfl))
  exact ⟨(hc _).trans p0, (hc _).trans p1, (hc _).trans p2⟩
set_option maxHeartbeats 8000000 in
set_option maxRecDepth 100000 in
theorem one_any (u : Tk.Tok) (hk : I64 u.1) (hs : u.2.1.size ≤ maxLen) (w : World) (hT : PTab w.heap.size w) :
    Calls Tryz.prog 4 #[tokV u.1 u.2.1 u.2.2] w (Bo true w) := by
  unfold maxLen at hs
  obtain ⟨k, t, n⟩ := u
  simp only at hk hs ⊢
  obtain ⟨W0, hW⟩ : ∃ W0, W0 = w.alloc (.cells #[.int .i64 k, .string t, .int .i64 n] 32) := ⟨_, rfl⟩
  have hb0 : Below w.heap.size w W0 := by rw [hW]; exact (Below.refl _ _).alloc (Nat.le_refl _) _
  have k0 : W0.heap[w.heap.size]? = some (.cells #[.int .i64 k, .string t, .int .i64 n] 32 (0, 0)) := by rw [hW]; exact heap_alloc_new w _
  obtain ⟨q0, q1, q2⟩ := tok3_cells k0
  have HK0 := Lib.hid k0
  have HB0 := Lib.hid hb0
  have CA : Hid (∀ W, Below w.heap.size w W → Calls Tryz.prog 8 #[] W (Bo true W)) := Lib.hid fun W hb => awake_any W (hT.next hb)
  have HT := Lib.hid hT
  clear hb0 k0 hT
  by_cases hz : t.size ≤ 100
  · have d1 : decide (100 < (t.size : Int)) = false := decide_eq_false (by omega)
    have d1' : decide (100 < t.size) = false := decide_eq_false (by omega)
    by_cases ho : Pr.OneU (k, t, n)
    · have CO := Lib.hid (rone_any k n t (by omega) true (by simp [ho]) W0)
      obtain ⟨⟨k', cs, n'⟩, e, hp⟩ := ho
      unfold Pr.toTok at e
      simp only [Prod.mk.injEq] at e
      obtain ⟨rfl, rfl, rfl⟩ := e
      have CT : Hid (∀ W, Below w.heap.size w W → Calls Tryz.prog 13 #[.agg #[.int .i64 k, .string (Tk.str cs), .int .i64 n]] W (Sg (Tk.str (Pr.tokC (k, cs, n))) W)) := Lib.hid fun W hb => token_yes (k, cs, n) hp hk (by show (Tk.str cs).size ≤ 10000; omega) W (HT.out.next hb)
      have CX : Hid (∀ W, Below w.heap.size w W → ∃ (C n9 : Nat) (w0 : World), (convert 9 28 (.string (Tk.str (Pr.tokC (k, cs, n))))).run Tryz.prog W = .ok (.slice (some ⟨W.heap.size, 0, none⟩) n9 C) w0 ∧
          Hid (Below W.heap.size W w0) ∧ Hid (Calls Tryz.prog 9 #[.slice (some ⟨W.heap.size, 0, none⟩) n9 C] w0 (Scd [(if k = 7 then 6 else k, Tk.str cs, n)] W))) := Lib.hid fun W hb => conv_read _ W (HT.out.next hb).u (by
        rw [← Ru.bs_len, Pr.str_bs]
        have h4 := Pr.tokC_four hp
        have h5 : (Ru.wr cs).length ≤ 100 := by rw [← Pr.str_bs, Ru.bs_len]; exact hz
        simp only at h4
        omega) _ (by
        have h6 : Ru.rd (Ru.wr (Pr.tokC (k, cs, n))) = Pr.tokC (k, cs, n) := Ru.rd_enc _ (Pr.rd_tokC hp)
        rw [Pr.str_bs, h6, Pr.scan_one hp]) (by simp)
      generalize Tk.str (Pr.tokC (k, cs, n)) = X at *
      generalize Tk.str cs = t at *
      clear hp
      by_cases h7 : k = 7
      · subst h7
        rw [if_pos rfl] at CX
        unfold tokV at CO ⊢
        go_enter Tryz.func4, Tryz.ntmps4
        go_upto_region 1 with fail
        rw [← hW]
        clear hW
        go_upto_region 4 with (first | (go_at_call 12; ((with_reducible refine (CO.out).mono ?_); rintro e w1 ⟨rfl, b1⟩; have HB1 := Lib.hid (below_next HB0.out b1); have HK1 := Lib.hid (below_block b1 HK0.out); obtain ⟨r0, r1, r2⟩ := tok3_cells HK1.out; have C1 := Lib.hid (CT.out _ HB1.out); clear CO b1 q0 q1 q2)) | (go_at_call 13; ((with_reducible refine (C1.out).mono ?_); rintro e w3 ⟨rfl, b3⟩; have HB3 := Lib.hid (below_next HB1.out b3); have HK3 := Lib.hid (below_block b3 HK1.out); obtain ⟨C9, n9, w4, hcv, hb4, HSC⟩ := CX.out w3 HB3.out; clear b3 C1 r0 r1 r2)) | (go_at_call 9; ((with_reducible refine (HSC.out).mono ?_); rintro e w5 ⟨A5, c5, rfl, hc5, T5, b5⟩; have HB5 := Lib.hid (below_next HB3.out b5); have HK5 := Lib.hid (below_block b5 HK3.out); have HT5 := Lib.hid T5; clear b5 T5)))
        obtain ⟨r0, r1, r2⟩ := tok3_cells HK5.out
        have f0 : w5.frozen? ⟨w.heap.size, 0, none⟩ = false := by simp [World.frozen?, HK5.out]
        clear hcv HSC
        have HT6 := Lib.hid (ts_far HT5.out HK5.out (.int .i64 6))
        have hs6 : (w5.setCell ⟨w.heap.size, 0, none⟩ (.int .i64 6)).heap.size = w5.heap.size := by simp [World.setCell]
        have CS : Hid (Calls Tryz.prog 11 #[.slice A5 1 c5, .slice (some ⟨w5.heap.size, 0, none⟩) 1 1] ((w5.setCell ⟨w.heap.size, 0, none⟩ (.int .i64 6)).alloc (.cells #[.int .i64 6, .string t, .int .i64 n] 32)) (Bo true ((w5.setCell ⟨w.heap.size, 0, none⟩ (.int .i64 6)).alloc (.cells #[.int .i64 6, .string t, .int .i64 n] 32)))) := Lib.hid (by
          have h2 := one_ts (w5.setCell ⟨w.heap.size, 0, none⟩ (.int .i64 6)) 6 n t 32
          rw [hs6] at h2
          exact same_all [(6, t, n)] [(6, t, n)] true (by simp) A5 (some ⟨w5.heap.size, 0, none⟩) c5 1 _ (by simp) (by simp) (HT6.out.next ((Below.refl _ _).alloc (Nat.le_refl _) _)) h2)
        have HB6 : Hid (Below w.heap.size w ((w5.setCell ⟨w.heap.size, 0, none⟩ (.int .i64 6)).alloc (.cells #[.int .i64 6, .string t, .int .i64 n] 32))) := Lib.hid ((HB5.out.setCell (Nat.le_refl _) _).alloc (by rw [hs6]; exact HB5.out.size) _)
        have HS6 := Lib.hid hs6
        clear hs6
        go_wp2_with (first | (go_at_call 11; ((with_reducible refine (CS.out).mono ?_); rintro e w6 ⟨rfl, b6⟩; have HB7 := Lib.hid (below_next HB6.out b6); have C6 := Lib.hid (CA.out _ HB7.out); clear b6)) | (go_at_call 8; ((with_reducible refine (C6.out).mono ?_); rintro e w7 ⟨rfl, b7⟩; have HB8 := Lib.hid (below_next HB7.out b7); clear b7)))
        go_ret
        exact ⟨rfl, HB8.out⟩
      · have h7' : (k == 7) = false := Ru.eq_f h7
        rw [if_neg h7] at CX
        have HKK := Lib.hid h7
        clear h7
        unfold tokV at CO ⊢
        go_enter Tryz.func4, Tryz.ntmps4
        go_upto_region 1 with fail
        rw [← hW]
        clear hW
        go_upto_region 4 with (first | (go_at_call 12; ((with_reducible refine (CO.out).mono ?_); rintro e w1 ⟨rfl, b1⟩; have HB1 := Lib.hid (below_next HB0.out b1); have HK1 := Lib.hid (below_block b1 HK0.out); obtain ⟨r0, r1, r2⟩ := tok3_cells HK1.out; have C1 := Lib.hid (CT.out _ HB1.out); clear CO b1 q0 q1 q2)) | (go_at_call 13; ((with_reducible refine (C1.out).mono ?_); rintro e w3 ⟨rfl, b3⟩; have HB3 := Lib.hid (below_next HB1.out b3); have HK3 := Lib.hid (below_block b3 HK1.out); obtain ⟨C9, n9, w4, hcv, hb4, HSC⟩ := CX.out w3 HB3.out; clear b3 C1 r0 r1 r2)) | (go_at_call 9; ((with_reducible refine (HSC.out).mono ?_); rintro e w5 ⟨A5, c5, rfl, hc5, T5, b5⟩; have HB5 := Lib.hid (below_next HB3.out b5); have HK5 := Lib.hid (below_block b5 HK3.out); have HT5 := Lib.hid T5; clear b5 T5)))
        obtain ⟨r0, r1, r2⟩ := tok3_cells HK5.out
        clear hcv HSC
        have CS : Hid (Calls Tryz.prog 11 #[.slice A5 1 c5, .slice (some ⟨w5.heap.size, 0, none⟩) 1 1] (w5.alloc (.cells #[.int .i64 k, .string t, .int .i64 n] 32)) (Bo true (w5.alloc (.cells #[.int .i64 k, .string t, .int .i64 n] 32)))) := Lib.hid (same_all [(k, t, n)] [(k, t, n)] true (by simp) A5 (some ⟨w5.heap.size, 0, none⟩) c5 1 _ (by simp) (by simp) (HT5.out.next ((Below.refl _ _).alloc (Nat.le_refl _) _)) (one_ts w5 k n t _))
        have HB6 : Hid (Below w.heap.size w (w5.alloc (.cells #[.int .i64 k, .string t, .int .i64 n] 32))) := Lib.hid (HB5.out.alloc HB5.out.size _)
        go_wp2_with (first | (go_at_call 11; ((with_reducible refine (CS.out).mono ?_); rintro e w6 ⟨rfl, b6⟩; have HB7 := Lib.hid (below_next HB6.out b6); have C6 := Lib.hid (CA.out _ HB7.out); clear b6)) | (go_at_call 8; ((with_reducible refine (C6.out).mono ?_); rintro e w7 ⟨rfl, b7⟩; have HB8 := Lib.hid (below_next HB7.out b7); clear b7)))
        go_ret
        exact ⟨rfl, HB8.out⟩
    · have CO := Lib.hid (rone_any k n t (by omega) false (by simp [ho]) W0)
      have CT : Hid (∀ W, Below w.heap.size w W → Calls Tryz.prog 13 #[.agg #[.int .i64 k, .string t, .int .i64 n]] W (Sg ⟨#[]⟩ W)) := Lib.hid fun W hb => token_no k n t hk (by omega) ho W (HT.out.next hb)
      clear ho
      unfold tokV at CO ⊢
      go_enter Tryz.func4, Tryz.ntmps4
      go_upto_region 1 with fail
      rw [← hW]
      clear hW
      go_wp2_with (first | (go_at_call 12; ((with_reducible refine (CO.out).mono ?_); rintro e w1 ⟨rfl, b1⟩; have HB1 := Lib.hid (below_next HB0.out b1); have HK1 := Lib.hid (below_block b1 HK0.out); obtain ⟨r0, r1, r2⟩ := tok3_cells HK1.out; have C1 := Lib.hid (CT.out _ HB1.out); clear CO b1 q0 q1 q2)) | (go_at_call 13; ((with_reducible refine (C1.out).mono ?_); rintro e w3 ⟨rfl, b3⟩; have HB3 := Lib.hid (below_next HB1.out b3); have C6 := Lib.hid (CA.out _ HB3.out); clear b3)) | (go_at_call 8; ((with_reducible refine (C6.out).mono ?_); rintro e w7 ⟨rfl, b7⟩; have HB7 := Lib.hid (below_next HB3.out b7); clear b7)))
      go_ret
      exact ⟨rfl, HB7.out⟩
  · have d1 : decide (100 < (t.size : Int)) = true := decide_eq_true (by omega)
    have d1' : decide (100 < t.size) = true := decide_eq_true (by omega)
    have C6 := Lib.hid (CA.out _ HB0.out)
    clear hz
    unfold tokV
    go_enter Tryz.func4, Tryz.ntmps4
    go_upto_region 1 with fail
    rw [← hW]
    clear hW
    go_wp2_with (first | (go_at_call 8; ((with_reducible refine (C6.out).mono ?_); rintro e w7 ⟨rfl, b7⟩; have HB7 := Lib.hid (below_next HB0.out b7); clear b7)))
    go_ret
    exact ⟨rfl, HB7.out⟩
end Go.Proofs.YtgcmjkimiakibaaGreatDoor
