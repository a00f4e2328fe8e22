/-
  The walk of the law TokenTexts.
-/
import Derived.Test.YtppgklmliklkkaaDoorGk2
import Derived.Test.YtppgklmliklkkaaDoorGl0
import Derived.Lib.OthersKept
import Derived.BigGuard
import Derived.Deep.LoopGhost
namespace Go.Proofs.YtppgklmliklkkaaDoor
open Go.RowKit

theorem str_sofar {s : ByteArray} {ds : List Int} (h : Ru.bs s = Ru.wr ds) : Tk.str ds = s := by
  unfold Tk.str
  rw [← h]
  unfold strOfNums Ru.bs
  rw [List.map_map]
  have : s = ⟨s.data⟩ := rfl
  rw [this]
  congr 1
  apply Array.ext'
  simp only
  apply List.ext_getElem
  · simp
  · intro i h1 h2
    simp
theorem ts_one (w : World) (t : ByteArray) : Ts (w.alloc (.cells #[.int .i64 6, .string t, .int .i64 0] 29)) (w.alloc (.cells #[.int .i64 6, .string t, .int .i64 0] 29)).heap.size (some ⟨w.heap.size, 0, none⟩) [(6, t, 0)] := fun _ =>
  ⟨w.heap.size, 0, rfl, by simp, fun j hj => by
    match j, hj with
    | 0, _ => exact ⟨by rw [World.cell?_alloc_mark]; rfl, by rw [World.cell?_alloc_mark]; rfl, by rw [World.cell?_alloc_mark]; rfl⟩⟩
theorem bs_q (q s : ByteArray) (c : Int) (hq : Ru.bs q = [c]) : Ru.bs (q ++ s ++ q) = c :: (Ru.bs s ++ [c]) := by
  rw [bs_app, bs_app, hq]; simp

set_option maxHeartbeats 8000000 in
set_option maxRecDepth 100000 in
theorem tokenTexts_walk (s : ByteArray) (w : World) (hs : s.size ≤ maxLen) (hT : UTab w.heap.size w) :
    Calls Tryd.prog 7 #[.string s] w (Yes w) := by
  unfold maxLen at hs
  have CA : Hid (∀ w1, Below w.heap.size w w1 → Calls Tryd.prog 8 #[] w1 (Yes w1)) := Lib.hid fun w1 h => awake_any w1 (hT.next h)
  by_cases g1 : s.size ≤ 500
  · have HT := Lib.hid hT
    clear hT
    go_enter Tryd.func7, Tryd.ntmps7
    go_wp2_with fail
    go_loopg [] s.size (fun r wr => ∃ (pos : Nat) (ds : List Int), s.size - pos ≤ r ∧ Hid (Tk.Sofar s pos ds) ∧ Hid (wr.heap[w.heap.size]? = some (.stringIter s pos)) ∧ Hid (Below w.heap.size w wr))
    case atStart => exact ⟨0, [], by omega, Lib.hid ⟨by simp; rfl, by omega, fun c hc => by cases hc⟩, Lib.hid (World.iter_heap w s 0), Lib.hid ((Below.refl _ _).alloc (Nat.le_refl _) _)⟩
    case round =>
      obtain ⟨pos, ds, hr, HS, HI, HB⟩ := hrel
      by_cases hp : pos < s.size
      · have hnx : ∀ ty, (Instr.next (.pointer (some ⟨w.heap.size, 0, none⟩)) true ty).run Tryd.prog wr = _ := fun ty => Lib.run_next_any_at wr w.heap.size s pos ty HI.out hp
        have HI2 := Lib.hid (Lib.iterAt_heap wr w.heap.size s pos (pos + (Utf8.decode s pos).2) HI.out)
        have HB2 := Lib.hid (Lib.below_iterAt HB.out (k := w.heap.size) (Nat.le_refl _) s (pos + (Utf8.decode s pos).2))
        have HN := Lib.hid (fun hc => Tk.sofar_next HS.out hp hc)
        obtain ⟨W1, hW1⟩ : ∃ W1, W1 = wr.iterAt w.heap.size s (pos + (Utf8.decode s pos).2) := ⟨_, rfl⟩
        rw [← hW1] at hnx HI2 HB2
        clear hW1 HI HB HS
        generalize (Utf8.decode s pos).2 = wd at *
        generalize ((Utf8.decode s pos).1 : Int) = c at *
        by_cases hbad : c = 34 ∨ c = 39 ∨ c = 92 ∨ c = 0 ∨ c = 10 ∨ c = 12 ∨ c = 13 ∨ c = 65533
        · clear HN
          rcases hbad with rfl | rfl | rfl | rfl | rfl | rfl | rfl | rfl
          all_goals
            go_wp2_with (go_at_call 8; ((with_reducible refine (CA.out _ HB2.out).mono ?_); rintro e w4 ⟨rfl, b4⟩))
            go_ret
            exact ⟨rfl, below_next HB2.out b4⟩
        · have hgood : Tk.TxC c := by unfold Tk.TxC; omega
          obtain ⟨h5, h6⟩ := HN.out hgood
          have HS2 := Lib.hid h5
          have n1 := Ru.eq_f (show ¬ c = 34 by omega)
          have n2 := Ru.eq_f (show ¬ c = 39 by omega)
          have n3 := Ru.eq_f (show ¬ c = 92 by omega)
          have n4 := Ru.eq_f (show ¬ c = 0 by omega)
          have n5 := Ru.eq_f (show ¬ c = 10 by omega)
          have n6 := Ru.eq_f (show ¬ c = 12 by omega)
          have n7 := Ru.eq_f (show ¬ c = 13 by omega)
          have n8 := Ru.eq_f (show ¬ c = 65533 by omega)
          clear HN hbad hgood h5
          go_wp2_with fail
          all_goals
            go_roundg (s.size - (pos + wd))
            case measure => omega
            case rel => exact ⟨pos + wd, ds ++ [c], by omega, HS2, HI2, HB2⟩
      · have hnx : ∀ ty, (Instr.next (.pointer (some ⟨w.heap.size, 0, none⟩)) true ty).run Tryd.prog wr = _ := fun ty => Lib.run_next_end_at wr w.heap.size s pos ty HI.out hp
        have hall : Ru.bs s = Ru.wr ds := by
          have h1 := HS.out.1
          have h2 := HS.out.2.1
          rw [List.take_of_length_le (by rw [Ru.bs_len]; omega)] at h1
          exact h1
        have HOK := Lib.hid HS.out.2.2
        have HE := Lib.hid hall
        have i0 : ∀ W, (Instr.index 38 (.agg #[.string ⟨#[34]⟩, .string ⟨#[39]⟩]) (.int .i64 0)).run Tryd.prog W = .ok (.string ⟨#[34]⟩) W := fun _ => by kernel_rfl
        have i1 : ∀ W, (Instr.index 38 (.agg #[.string ⟨#[34]⟩, .string ⟨#[39]⟩]) (.int .i64 1)).run Tryd.prog W = .ok (.string ⟨#[39]⟩) W := fun _ => by kernel_rfl
        have xq : Hid (∀ (q : ByteArray) (c : Int) (W : World), Ru.bs q = [c] → (c = 34 ∨ c = 39) → UTab W.heap.size W → _) := Lib.hid fun q c W hq hc h => conv_scan (q ++ s ++ q) W h (by rw [size_of_bs (bs_q q s c hq)]; simp [Ru.bs_len]; omega) [(6, s, 0)] (by rw [bs_q q s c hq, HE.out, Tk.rd_quoted hc HOK.out, Tk.scan_quoted hc (fun d hd => (HOK.out d hd).2), str_sofar HE.out])
        have CS : Hid (∀ (A C : Option Addr) (ca cb : Nat) (w1 : World), Ts w1 w1.heap.size A [(6, s, 0)] → Ts w1 w1.heap.size C [(6, s, 0)] → Calls Tryd.prog 10 #[.slice A 1 ca, .slice C 1 cb] w1 (Yes w1)) := Lib.hid fun A C ca cb w1 h1 h2 => same_any [(6, s, 0)] A C ca cb w1 (by simp) h1 h2
        clear hall HS HOK HE HI
        go_wp2_with fail
        go_loopw [50] (fun v50 wx => ∃ k : Nat, k ≤ 2 ∧ v50 = .int .i64 k ∧ Hid (Below w.heap.size w wx)) (fun v50 _ => 2 - (RowKit.intOf v50).toNat)
        case atStart => exact ⟨0, by omega, rfl, HB⟩
        case round =>
          clear HB
          obtain ⟨k, hk2, rfl, HB2⟩ := hrel
          rcases (show k = 0 ∨ k = 1 ∨ k = 2 by omega) with rfl | rfl | rfl
          · obtain ⟨Ca, na, wa, hca, CSa⟩ := xq.out ⟨#[34]⟩ 34 wr rfl (.inl rfl) (HT.out.next HB2.out)
            go_wp2_with (first | (go_at_call 9; ((with_reducible refine (CSa.out).mono ?_); rintro e w1 ⟨A1, c1, rfl, k1, B1, b1⟩; have HB1 := Lib.hid (B1.next ((Below.refl w1.heap.size w1).alloc (Nat.le_refl _) (.cells #[.int .i64 6, .string s, .int .i64 0] 29))); have HO := Lib.hid (ts_one w1 s); clear CSa B1)) | (go_at_call 10; ((with_reducible refine (CS.out _ _ _ _ _ HB1.out HO.out).mono ?_); rintro e w2 ⟨rfl, b2⟩; have HB3 := Lib.hid (below_next HB2.out (below_next (b1.alloc b1.size (.cells #[.int .i64 6, .string s, .int .i64 0] 29)) b2)))))
            go_roundw
            case rel => exact ⟨1, by omega, rfl, HB3⟩
            case measure => simp [RowKit.intOf]
          · obtain ⟨Ca, na, wa, hca, CSa⟩ := xq.out ⟨#[39]⟩ 39 wr rfl (.inr rfl) (HT.out.next HB2.out)
            go_wp2_with (first | (go_at_call 9; ((with_reducible refine (CSa.out).mono ?_); rintro e w1 ⟨A1, c1, rfl, k1, B1, b1⟩; have HB1 := Lib.hid (B1.next ((Below.refl w1.heap.size w1).alloc (Nat.le_refl _) (.cells #[.int .i64 6, .string s, .int .i64 0] 29))); have HO := Lib.hid (ts_one w1 s); clear CSa B1)) | (go_at_call 10; ((with_reducible refine (CS.out _ _ _ _ _ HB1.out HO.out).mono ?_); rintro e w2 ⟨rfl, b2⟩; have HB3 := Lib.hid (below_next HB2.out (below_next (b1.alloc b1.size (.cells #[.int .i64 6, .string s, .int .i64 0] 29)) b2)))))
            go_roundw
            case rel => exact ⟨2, by omega, rfl, HB3⟩
            case measure => simp [RowKit.intOf]
          · go_wp2_with (go_at_call 8; ((with_reducible refine (CA.out _ HB2.out).mono ?_); rintro e w4 ⟨rfl, b4⟩))
            go_ret
            exact ⟨rfl, below_next HB2.out b4⟩
  · have g3 : 500 < s.size := by omega
    clear hT
    go_enter Tryd.func7, Tryd.ntmps7
    go_wp2_with (go_at_call 8; ((with_reducible refine (CA.out _ (Below.refl _ _)).mono ?_); rintro e w4 ⟨rfl, b4⟩))
    go_ret
    exact ⟨rfl, b4⟩
end Go.Proofs.YtppgklmliklkkaaDoor
