/-
  The walk of the reference's Print.
-/
import Derived.Test.YtgcmjkimiakibaaDoorGah
import Derived.Test.YtgcmjkimiakibaaDoorGav
import Derived.Test.YtgcmjkimiakibaaDoorGag
import Derived.OwnWalk
import Derived.Deep.DeepCutAuto
import Derived.Test.YtgcmjkimiakibaaDoorGaw
import Derived.Test.YtgcmjkimiakibaaDoorGaz
namespace Go.Proofs.YtgcmjkimiakibaaDoor
open Go.RowKit

theorem str_empty {t : ByteArray} {b : Bool} (h : decide (t.size = 0) = b) : t.toList.isEmpty = b := by
  rw [← h, Lib.toList_data]
  have hl : t.data.toList.length = t.size := by simp
  rw [← hl]
  cases t.data.toList <;> simp

theorem run_load_one {P : Program} (W : World) (v : Value) (t : TypeId) : (loadCells ⟨W.heap.size, 0, none⟩ 1).run P (W.alloc (.cells #[v] t)) = .ok #[v] (W.alloc (.cells #[v] t)) := by
  have h := run_loadCells_list (P := P) (w := W.alloc (.cells #[v] t)) ⟨W.heap.size, 0, none⟩ [v] (by
    intro j u hj
    match j, hj with
    | 0, hj => simp only [List.getElem?_cons_zero, Option.some.injEq] at hj; subst hj; simp [Addr.add, go_sem])
  exact h
theorem conv_one (x : Int) (W : World) : (convert 37 9 (.slice (some ⟨W.heap.size, 0, none⟩) 1 1)).run Tryd.prog (W.alloc (.cells #[.int .u8 x] 5)) = .ok (.string ⟨#[UInt8.ofNat x.toNat]⟩) (W.alloc (.cells #[.int .u8 x] 5)) := by
  rw [run_convert_bytes_string _ _ _ 5 _ _ _ Tryd.underlying37 Tryd.underlying5 Tryd.underlying9]
  rw [run_bytesToString _ _ _ _ [x] (by rw [run_load_one]; rfl)]
  rfl

theorem conv_at (x : Int) (W : World) (b : Nat) (h : W.heap.size = b) : (convert 37 9 (.slice (some ⟨b, 0, none⟩) 1 1)).run Tryd.prog (W.alloc (.cells #[.int .u8 x] 5)) = .ok (.string ⟨#[UInt8.ofNat x.toNat]⟩) (W.alloc (.cells #[.int .u8 x] 5)) := by
  subst h; exact conv_one x W

set_option maxRecDepth 100000 in
set_option maxHeartbeats 1000000 in
theorem rprint_any (n : Int) (w : World) :
    Calls Tryd.prog 24 #[.int .i64 n] w (Gives (Fx.text n) 100000000000 w.heap.size w) := by
  have h1 := Fx.stop_lo n
  have h2 := Fx.stop_hi n
  have HT := Lib.hid (show Fx.text n = Fx.textOf (decide (Fx.stop n < 0)) (Fx.stop n).natAbs from rfl)
  have hmx : (Fx.stop n).natAbs ≤ 1099511627776 := by omega
  cases d1 : decide (Fx.stop n < 0)
  all_goals
    have e1 : Fx.stop n = ((Fx.stop n).natAbs : Int) ∨ Fx.stop n = -((Fx.stop n).natAbs : Int) := by omega
    first | replace e1 : Fx.stop n = ((Fx.stop n).natAbs : Int) := (by have := of_decide_eq_false d1; omega) | replace e1 : Fx.stop n = -((Fx.stop n).natAbs : Int) := (by have := of_decide_eq_true d1; omega)
    have m1 : decide (Fx.stop n < 0) = true → 0 < (Fx.stop n).natAbs := fun h => by have := of_decide_eq_true h; omega
    rw [d1] at HT m1
    generalize (Fx.stop n).natAbs = m at *
    have hm0 : (0 : Int) ≤ (m : Int) := by omega
    first | (have hm1 : (1 : Int) ≤ (m : Int) := (by have := m1 rfl; omega)) | skip
    clear m1 h1 h2
    rw [e1] at d1
    go_enter Tryd.func24, Tryd.ntmps24
    go_wp2_with (first | (go_at_call 44; refine (rstop_any _ _).mono ?_; rintro e w' ⟨rfl, rfl⟩))
    go_loopw [4, 5] (fun s4 s5 wr => ∃ (v : Nat) (t : ByteArray), v ≤ 1099511628 ∧ s4 = .int .i64 v ∧ s5 = .string t ∧ Hid (Fx.Part (m / 1000) v t) ∧ t.size + v ≤ m / 1000 + 1 ∧ Below w.heap.size w wr) (fun s4 s5 _ => (intOf s4).toNat * 2 + (match s5 with | .string t => if t.size = 0 then 1 else 0 | _ => 0))
    case atStart => exact ⟨m / 1000, ⟨#[]⟩, by omega, by go_num, rfl, Lib.hid rfl, by show 0 + m / 1000 ≤ _; omega, Below.refl _ _⟩
    case round =>
      obtain ⟨v, t, hv, rfl, rfl, hp, hsz, hb⟩ := hrel
      have HB := Lib.hid hb
      have hbs := hb.size
      clear hb
      by_cases hgo : 0 < v ∨ t.size = 0
      · have hcv := conv_one
        by_cases hv0 : 0 < v
        · go_wp2_with fail
          go_roundw
          case rel =>
            refine ⟨v / 10, _, by omega, by go_num, rfl, Lib.hid (Fx.part_next hp.out (Fx.dg_walk _) hgo (by simp)), ?_, HB.out.alloc hbs _⟩
            simp only [ByteArray.size_append, size1]; omega
          case measure =>
            simp [intOf, ByteArray.size_append, size1]
            omega
        · obtain rfl : v = 0 := by omega
          have he : t.toList.isEmpty = true := str_empty (decide_eq_true (by omega))
          go_wp2_with fail
          go_roundw
          case rel =>
            refine ⟨0, _, by omega, rfl, rfl, Lib.hid (Fx.part_next (v := 0) (c := 48) hp.out rfl hgo (by simp)), ?_, HB.out.alloc hbs _⟩
            simp only [ByteArray.size_append, size1]; omega
          case measure =>
            have hz : t.size = 0 := by omega
            simp [intOf, ByteArray.size_append, size1, hz]
      · obtain rfl : v = 0 := by omega
        have he : t.toList.isEmpty = false := str_empty (decide_eq_false (by omega))
        have HE := Lib.hid (Fx.part_end hp.out (by omega))
        have hts : t.size ≤ 1099511628 := by omega
        have hcv := conv_at
        clear hp hgo hsz
        by_cases hr : m % 1000 = 0
        · have e2 : (((m : Int) % 1000) == 0) = true := by rw [beq_iff_eq]; omega
          have HR := Lib.hid hr
          clear hr
          go_wp2_with fail
          go_ret
          refine ⟨_, rfl, Lib.hid ?_, ?_, HB.out⟩
          · rw [HT.out, Fx.textOf, HR.out, if_pos rfl]
            unfold Spells
            simp [HE.out]
          · simp only [ByteArray.size_append, size0, size1]; omega
        · have e2 : (((m : Int) % 1000) == 0) = false := by rw [beq_eq_false_iff_ne]; omega
          have HF := Lib.hid (Fx.frac_eq (r := m % 1000) (by omega) hr)
          have HR := Lib.hid hr
          clear hr
          have rr : (0 < m % 1000 % 100 ∧ 0 < m % 1000 % 10) ∨ (0 < m % 1000 % 100 ∧ ¬ 0 < m % 1000 % 10) ∨ (¬ 0 < m % 1000 % 100 ∧ ¬ 0 < m % 1000 % 10) := by omega
          rcases rr with ⟨r1, r0⟩ | ⟨r1, r0⟩ | ⟨r1, r0⟩
          all_goals
            have HF' := HF.out
            first | rw [if_pos r1] at HF' | rw [if_neg r1] at HF'
            first | rw [if_pos r0] at HF' | rw [if_neg r0] at HF'
            have HG := Lib.hid HF'
            clear HF'
            go_wp2_with fail
            go_ret
            refine ⟨_, rfl, Lib.hid ?_, ?_, by repeat (first | exact HB.out | refine Below.alloc ?_ (by first | exact hbs | (simp; omega)) _)⟩
            · rw [HT.out, Fx.textOf, if_neg HR.out, HG.out]
              unfold Spells
              simp only [Fx.dg_walk]
              simp [HE.out, Fx.dg]
            · simp only [ByteArray.size_append, size0, size1]; omega

end Go.Proofs.YtgcmjkimiakibaaDoor

/-
  The walk of the reference's Token.
-/
namespace Go.Proofs.YtgcmjkimiakibaaDoor
open Go.RowKit

theorem rnumber_str (n : Int) (w : World) : Calls Tryd.prog 24 #[.int .i64 n] w (Sg (Tk.str (Pr.nC n)) w) := by
  refine (rprint_any n w).mono ?_
  rintro e w' ⟨t, rfl, hs, _, hb⟩
  exact ⟨by rw [nC_str hs.out], hb⟩
namespace Pr
open Ru Tk
theorem nC_size (n : Int) : (str (nC n)).size ≤ 40 := by
  rw [str_size, wr_asc' (fun c hc => by have := nC_chr n c hc; omega)]
  exact nC_len n
theorem nm_size (dim : Bool) {cs : List Int} (h : ∀ c ∈ cs, Is c) : (str (nm dim cs)).size ≤ 8 * cs.length := nT_size dim h (Nat.le_refl _)
theorem enq_size {cs : List Int} (h : ∀ c ∈ cs, Is c) : (str (34 :: enq cs)).size ≤ 8 * cs.length + 1 := by
  have := qT_size h (Nat.le_refl cs.length)
  unfold enT at this
  rwa [List.take_length] at this
end Pr
set_option maxHeartbeats 4000000 in
set_option maxRecDepth 100000 in
theorem rtoken_no (k n : Int) (t : ByteArray) (hm : t.size ≤ 1000) (hno : ¬ Pr.OneU (k, t, n)) (w : World) :
    Calls Tryd.prog 9 #[tokV k t n] w (Sg ⟨#[]⟩ w) := by
  obtain ⟨W0, hW⟩ : ∃ W0, W0 = w.alloc (.cells #[.int .i64 k, .string t, .int .i64 n] 26) := ⟨_, rfl⟩
  have hb0 : Below w.heap.size w W0 := by rw [hW]; exact (Below.refl _ _).alloc (Nat.le_refl _) _
  have k0 : W0.heap[w.heap.size]? = some (.cells #[.int .i64 k, .string t, .int .i64 n] 26 (0, 0)) := by rw [hW]; exact heap_alloc_new w _
  obtain ⟨q0, q1, q2⟩ := tok3_cells k0
  have HB0 := Lib.hid hb0
  have CO := Lib.hid (rone_any k n t hm false (by simp [hno]) W0)
  clear hno hb0 k0
  unfold tokV at CO ⊢
  go_enter Tryd.func9, Tryd.ntmps9
  go_upto_region 1 with fail
  rw [← hW]
  clear hW
  go_wp2_with (first | (go_at_call 19; ((with_reducible refine (CO.out).mono ?_); rintro e w1 ⟨rfl, b1⟩; have HB1 := Lib.hid b1; clear b1)))
  go_ret
  exact ⟨rfl, below_next HB0.out HB1.out⟩
set_option maxHeartbeats 16000000 in
set_option maxRecDepth 100000 in
theorem rtoken_yes (k n : Int) (cs : List Int) (ho : Pr.One (k, cs, n)) (hm : (Tk.str cs).size ≤ 1000) (w : World) :
    Calls Tryd.prog 9 #[tokV k (Tk.str cs) n] w (Sg (Tk.str (Pr.tokC (k, cs, n))) w) := by
  obtain ⟨W0, hW⟩ : ∃ W0, W0 = w.alloc (.cells #[.int .i64 k, .string (Tk.str cs), .int .i64 n] 26) := ⟨_, rfl⟩
  have hb0 : Below w.heap.size w W0 := by rw [hW]; exact (Below.refl _ _).alloc (Nat.le_refl _) _
  have k0 : W0.heap[w.heap.size]? = some (.cells #[.int .i64 k, .string (Tk.str cs), .int .i64 n] 26 (0, 0)) := by rw [hW]; exact heap_alloc_new w _
  obtain ⟨q0, q1, q2⟩ := tok3_cells k0
  have HB0 := Lib.hid hb0
  have HK0 := Lib.hid k0
  have hone : Pr.OneU (k, Tk.str cs, n) := ⟨(k, cs, n), rfl, ho⟩
  have CO := Lib.hid (rone_any k n (Tk.str cs) hm true (by simp [hone]) W0)
  have hi : ∀ c ∈ cs, Ru.Is c := fun c hc => (ho.1 c hc).1
  have hx : Pr.Txt (Tk.str cs) cs := Pr.txt_str hi
  have CC : Hid (∀ W, Calls Tryd.prog 20 #[.string (Tk.str cs)] W fun e w' => ∃ (A : Option Addr) (cap : Nat), e = .returned (.tuple #[.slice A cs.length cap, .bool true]) ∧ cs.length ≤ cap ∧ Bs w' w'.heap.size .i64 A cs ∧ Below W.heap.size W w') := Lib.hid fun W => chars_yes hx hm W
  have hcl : cs.length ≤ 1000 := by
    have := Pr.wr_len_ge cs
    rw [← Pr.txt_size hx] at this
    omega
  have HI := Lib.hid hi
  have hkd := ho.2
  have hk : k = 1 ∨ k = 2 ∨ k = 3 ∨ k = 4 ∨ k = 5 ∨ k = 6 ∨ k = 7 ∨ k = 8 ∨ k = 9 ∨ k = 10 ∨ k = 11 ∨ k = 12 ∨ k = 13 ∨ k = 14 ∨ k = 15 ∨ k = 16 := by
    unfold Pr.Kd at hkd
    omega
  clear hone ho hb0 k0 hi hx hkd
  unfold tokV at CO ⊢
  rcases hk with rfl | rfl | rfl | rfl | rfl | rfl | rfl | rfl | rfl | rfl | rfl | rfl | rfl | rfl | rfl | rfl
  · skip
    have CL := Lib.hid (fun W => rletter_any 10 (by unfold Ru.Is; omega) W)
    generalize Tk.str cs = t at *
    clear HI
    go_enter Tryd.func9, Tryd.ntmps9
    go_upto_region 1 with fail
    rw [← hW]
    clear hW
    go_wp2_with (first | (go_at_call 19; ((with_reducible refine (CO.out).mono ?_); rintro e w1 ⟨rfl, b1⟩; have HB_w1 := Lib.hid b1; have HK1 := Lib.hid (below_block b1 HK0.out); obtain ⟨p0, p1, p2⟩ := tok3_cells HK1.out; clear CO b1 q0 q1 q2)) | (go_at_call 20; ((with_reducible refine (CC.out _).mono ?_); rintro e w2 ⟨A, cap, rfl, _, B1, b2⟩; have HB_w2 := Lib.hid b2; have HS := Lib.hid B1; have HK2 := Lib.hid (below_block b2 HK1.out); obtain ⟨r0, r1, r2⟩ := tok3_cells HK2.out; clear CC b2 B1 p0 p1 p2)) | (go_at_call 21; ((with_reducible refine (CL.out _).mono ?_); rintro e w3 ⟨rfl, b_w3⟩; have HB_w3 := Lib.hid b_w3; clear b_w3)))
    go_ret
    exact ⟨rfl, below_next HB0.out (below_next HB_w1.out (below_next HB_w2.out HB_w3.out))⟩
  · skip
    have CN : Hid (∀ (A : Option Addr) (cap : Nat) (W : World), Bs W W.heap.size .i64 A cs → Calls Tryd.prog 22 #[.slice A cs.length cap, .bool false] W (Sg (Tk.str (Pr.nm false cs)) W)) := Lib.hid fun A cap W h => name_any false cs HI.out (by omega) A cap W h
    have hz := Pr.nm_size false HI.out
    have e : Tk.str (Pr.tokC (2, cs, n)) = Tk.str (Pr.nm false cs) := rfl
    rw [e]
    clear e
    generalize Tk.str (Pr.nm false cs) = Y at *
    generalize Tk.str cs = t at *
    clear HI
    go_enter Tryd.func9, Tryd.ntmps9
    go_upto_region 1 with fail
    rw [← hW]
    clear hW
    go_wp2_with (first | (go_at_call 19; ((with_reducible refine (CO.out).mono ?_); rintro e w1 ⟨rfl, b1⟩; have HB_w1 := Lib.hid b1; have HK1 := Lib.hid (below_block b1 HK0.out); obtain ⟨p0, p1, p2⟩ := tok3_cells HK1.out; clear CO b1 q0 q1 q2)) | (go_at_call 20; ((with_reducible refine (CC.out _).mono ?_); rintro e w2 ⟨A, cap, rfl, _, B1, b2⟩; have HB_w2 := Lib.hid b2; have HS := Lib.hid B1; have HK2 := Lib.hid (below_block b2 HK1.out); obtain ⟨r0, r1, r2⟩ := tok3_cells HK2.out; clear CC b2 B1 p0 p1 p2)) | (go_at_call 22; ((with_reducible refine (CN.out A cap _ HS.out).mono ?_); rintro e w3 ⟨rfl, b_w3⟩; have HB_w3 := Lib.hid b_w3; clear b_w3)))
    go_ret
    exact ⟨rfl, below_next HB0.out (below_next HB_w1.out (below_next HB_w2.out HB_w3.out))⟩
  · skip
    have CN : Hid (∀ (A : Option Addr) (cap : Nat) (W : World), Bs W W.heap.size .i64 A cs → Calls Tryd.prog 22 #[.slice A cs.length cap, .bool false] W (Sg (Tk.str (Pr.nm false cs)) W)) := Lib.hid fun A cap W h => name_any false cs HI.out (by omega) A cap W h
    have hz := Pr.nm_size false HI.out
    have e : Tk.str (Pr.tokC (3, cs, n)) = Tk.str (Pr.nm false cs) ++ ⟨#[40]⟩ := Pr.str_app (Pr.nm false cs) [40]
    rw [e]
    clear e
    generalize Tk.str (Pr.nm false cs) = Y at *
    generalize Tk.str cs = t at *
    clear HI
    go_enter Tryd.func9, Tryd.ntmps9
    go_upto_region 1 with fail
    rw [← hW]
    clear hW
    go_wp2_with (first | (go_at_call 19; ((with_reducible refine (CO.out).mono ?_); rintro e w1 ⟨rfl, b1⟩; have HB_w1 := Lib.hid b1; have HK1 := Lib.hid (below_block b1 HK0.out); obtain ⟨p0, p1, p2⟩ := tok3_cells HK1.out; clear CO b1 q0 q1 q2)) | (go_at_call 20; ((with_reducible refine (CC.out _).mono ?_); rintro e w2 ⟨A, cap, rfl, _, B1, b2⟩; have HB_w2 := Lib.hid b2; have HS := Lib.hid B1; have HK2 := Lib.hid (below_block b2 HK1.out); obtain ⟨r0, r1, r2⟩ := tok3_cells HK2.out; clear CC b2 B1 p0 p1 p2)) | (go_at_call 22; ((with_reducible refine (CN.out A cap _ HS.out).mono ?_); rintro e w3 ⟨rfl, b_w3⟩; have HB_w3 := Lib.hid b_w3; clear b_w3)))
    go_ret
    exact ⟨rfl, below_next HB0.out (below_next HB_w1.out (below_next HB_w2.out HB_w3.out))⟩
  · skip
    have CN : Hid (∀ (A : Option Addr) (cap : Nat) (W : World), Bs W W.heap.size .i64 A cs → Calls Tryd.prog 22 #[.slice A cs.length cap, .bool false] W (Sg (Tk.str (Pr.nm false cs)) W)) := Lib.hid fun A cap W h => name_any false cs HI.out (by omega) A cap W h
    have hz := Pr.nm_size false HI.out
    have e : Tk.str (Pr.tokC (4, cs, n)) = ⟨#[64]⟩ ++ Tk.str (Pr.nm false cs) := Pr.str_app [64] (Pr.nm false cs)
    rw [e]
    clear e
    generalize Tk.str (Pr.nm false cs) = Y at *
    generalize Tk.str cs = t at *
    clear HI
    go_enter Tryd.func9, Tryd.ntmps9
    go_upto_region 1 with fail
    rw [← hW]
    clear hW
    go_wp2_with (first | (go_at_call 19; ((with_reducible refine (CO.out).mono ?_); rintro e w1 ⟨rfl, b1⟩; have HB_w1 := Lib.hid b1; have HK1 := Lib.hid (below_block b1 HK0.out); obtain ⟨p0, p1, p2⟩ := tok3_cells HK1.out; clear CO b1 q0 q1 q2)) | (go_at_call 20; ((with_reducible refine (CC.out _).mono ?_); rintro e w2 ⟨A, cap, rfl, _, B1, b2⟩; have HB_w2 := Lib.hid b2; have HS := Lib.hid B1; have HK2 := Lib.hid (below_block b2 HK1.out); obtain ⟨r0, r1, r2⟩ := tok3_cells HK2.out; clear CC b2 B1 p0 p1 p2)) | (go_at_call 22; ((with_reducible refine (CN.out A cap _ HS.out).mono ?_); rintro e w3 ⟨rfl, b_w3⟩; have HB_w3 := Lib.hid b_w3; clear b_w3)))
    go_ret
    exact ⟨rfl, below_next HB0.out (below_next HB_w1.out (below_next HB_w2.out HB_w3.out))⟩
  · skip
    have CN : Hid (∀ (A : Option Addr) (cap : Nat) (W : World), Bs W W.heap.size .i64 A cs → Calls Tryd.prog 22 #[.slice A cs.length cap, .bool false] W (Sg (Tk.str (Pr.nm false cs)) W)) := Lib.hid fun A cap W h => name_any false cs HI.out (by omega) A cap W h
    have hz := Pr.nm_size false HI.out
    have e : Tk.str (Pr.tokC (5, cs, n)) = ⟨#[35]⟩ ++ Tk.str (Pr.nm false cs) := Pr.str_app [35] (Pr.nm false cs)
    rw [e]
    clear e
    generalize Tk.str (Pr.nm false cs) = Y at *
    generalize Tk.str cs = t at *
    clear HI
    go_enter Tryd.func9, Tryd.ntmps9
    go_upto_region 1 with fail
    rw [← hW]
    clear hW
    go_wp2_with (first | (go_at_call 19; ((with_reducible refine (CO.out).mono ?_); rintro e w1 ⟨rfl, b1⟩; have HB_w1 := Lib.hid b1; have HK1 := Lib.hid (below_block b1 HK0.out); obtain ⟨p0, p1, p2⟩ := tok3_cells HK1.out; clear CO b1 q0 q1 q2)) | (go_at_call 20; ((with_reducible refine (CC.out _).mono ?_); rintro e w2 ⟨A, cap, rfl, _, B1, b2⟩; have HB_w2 := Lib.hid b2; have HS := Lib.hid B1; have HK2 := Lib.hid (below_block b2 HK1.out); obtain ⟨r0, r1, r2⟩ := tok3_cells HK2.out; clear CC b2 B1 p0 p1 p2)) | (go_at_call 22; ((with_reducible refine (CN.out A cap _ HS.out).mono ?_); rintro e w3 ⟨rfl, b_w3⟩; have HB_w3 := Lib.hid b_w3; clear b_w3)))
    go_ret
    exact ⟨rfl, below_next HB0.out (below_next HB_w1.out (below_next HB_w2.out HB_w3.out))⟩
  · skip
    have CQ : Hid (∀ (A : Option Addr) (cap : Nat) (W : World), Bs W W.heap.size .i64 A cs → Calls Tryd.prog 23 #[.slice A cs.length cap] W (Sg (Tk.str (34 :: Pr.enq cs)) W)) := Lib.hid fun A cap W h => quoted_any cs HI.out (by omega) A cap W h
    have hz := Pr.enq_size HI.out
    have e : Tk.str (Pr.tokC (6, cs, n)) = Tk.str (34 :: Pr.enq cs) ++ Tk.str [34] := Pr.str_app (34 :: Pr.enq cs) [34]
    rw [e]
    have CL := Lib.hid (fun W => rletter_any 34 (by unfold Ru.Is; omega) W)
    have hz1 : (Tk.str [34]).size ≤ 1 := by decide
    generalize Tk.str [34] = Z at *
    clear e
    generalize Tk.str (34 :: Pr.enq cs) = Y at *
    generalize Tk.str cs = t at *
    clear HI
    go_enter Tryd.func9, Tryd.ntmps9
    go_upto_region 1 with fail
    rw [← hW]
    clear hW
    go_wp2_with (first | (go_at_call 19; ((with_reducible refine (CO.out).mono ?_); rintro e w1 ⟨rfl, b1⟩; have HB_w1 := Lib.hid b1; have HK1 := Lib.hid (below_block b1 HK0.out); obtain ⟨p0, p1, p2⟩ := tok3_cells HK1.out; clear CO b1 q0 q1 q2)) | (go_at_call 20; ((with_reducible refine (CC.out _).mono ?_); rintro e w2 ⟨A, cap, rfl, _, B1, b2⟩; have HB_w2 := Lib.hid b2; have HS := Lib.hid B1; have HK2 := Lib.hid (below_block b2 HK1.out); obtain ⟨r0, r1, r2⟩ := tok3_cells HK2.out; clear CC b2 B1 p0 p1 p2)) | (go_at_call 23; ((with_reducible refine (CQ.out A cap _ HS.out).mono ?_); rintro e w3 ⟨rfl, b_w3⟩; have HB_w3 := Lib.hid b_w3; clear b_w3)) | (go_at_call 21; ((with_reducible refine (CL.out _).mono ?_); rintro e w4 ⟨rfl, b_w4⟩; have HB_w4 := Lib.hid b_w4; clear b_w4)))
    go_ret
    exact ⟨rfl, below_next HB0.out (below_next HB_w1.out (below_next HB_w2.out (below_next HB_w3.out HB_w4.out)))⟩
  · skip
    have CQ : Hid (∀ (A : Option Addr) (cap : Nat) (W : World), Bs W W.heap.size .i64 A cs → Calls Tryd.prog 23 #[.slice A cs.length cap] W (Sg (Tk.str (34 :: Pr.enq cs)) W)) := Lib.hid fun A cap W h => quoted_any cs HI.out (by omega) A cap W h
    have hz := Pr.enq_size HI.out
    have e : Tk.str (Pr.tokC (7, cs, n)) = Tk.str (34 :: Pr.enq cs) := rfl
    rw [e]
    clear e
    generalize Tk.str (34 :: Pr.enq cs) = Y at *
    generalize Tk.str cs = t at *
    clear HI
    go_enter Tryd.func9, Tryd.ntmps9
    go_upto_region 1 with fail
    rw [← hW]
    clear hW
    go_wp2_with (first | (go_at_call 19; ((with_reducible refine (CO.out).mono ?_); rintro e w1 ⟨rfl, b1⟩; have HB_w1 := Lib.hid b1; have HK1 := Lib.hid (below_block b1 HK0.out); obtain ⟨p0, p1, p2⟩ := tok3_cells HK1.out; clear CO b1 q0 q1 q2)) | (go_at_call 20; ((with_reducible refine (CC.out _).mono ?_); rintro e w2 ⟨A, cap, rfl, _, B1, b2⟩; have HB_w2 := Lib.hid b2; have HS := Lib.hid B1; have HK2 := Lib.hid (below_block b2 HK1.out); obtain ⟨r0, r1, r2⟩ := tok3_cells HK2.out; clear CC b2 B1 p0 p1 p2)) | (go_at_call 23; ((with_reducible refine (CQ.out A cap _ HS.out).mono ?_); rintro e w3 ⟨rfl, b_w3⟩; have HB_w3 := Lib.hid b_w3; clear b_w3)))
    go_ret
    exact ⟨rfl, below_next HB0.out (below_next HB_w1.out (below_next HB_w2.out HB_w3.out))⟩
  · skip
    have CP := Lib.hid (fun W => rnumber_str n W)
    have hzn := Pr.nC_size n
    have e : Tk.str (Pr.tokC (8, cs, n)) = Tk.str (Pr.nC n) := rfl
    rw [e]
    clear e
    generalize Tk.str (Pr.nC n) = X at *
    generalize Tk.str cs = t at *
    clear HI
    go_enter Tryd.func9, Tryd.ntmps9
    go_upto_region 1 with fail
    rw [← hW]
    clear hW
    go_wp2_with (first | (go_at_call 19; ((with_reducible refine (CO.out).mono ?_); rintro e w1 ⟨rfl, b1⟩; have HB_w1 := Lib.hid b1; have HK1 := Lib.hid (below_block b1 HK0.out); obtain ⟨p0, p1, p2⟩ := tok3_cells HK1.out; clear CO b1 q0 q1 q2)) | (go_at_call 20; ((with_reducible refine (CC.out _).mono ?_); rintro e w2 ⟨A, cap, rfl, _, B1, b2⟩; have HB_w2 := Lib.hid b2; have HS := Lib.hid B1; have HK2 := Lib.hid (below_block b2 HK1.out); obtain ⟨r0, r1, r2⟩ := tok3_cells HK2.out; clear CC b2 B1 p0 p1 p2)) | (go_at_call 24; ((with_reducible refine (CP.out _).mono ?_); rintro e w3 ⟨rfl, b_w3⟩; have HB_w3 := Lib.hid b_w3; clear b_w3)))
    go_ret
    exact ⟨rfl, below_next HB0.out (below_next HB_w1.out (below_next HB_w2.out HB_w3.out))⟩
  · skip
    have CP := Lib.hid (fun W => rnumber_str n W)
    have hzn := Pr.nC_size n
    have e : Tk.str (Pr.tokC (9, cs, n)) = Tk.str (Pr.nC n) ++ ⟨#[37]⟩ := Pr.str_app (Pr.nC n) [37]
    rw [e]
    clear e
    generalize Tk.str (Pr.nC n) = X at *
    generalize Tk.str cs = t at *
    clear HI
    go_enter Tryd.func9, Tryd.ntmps9
    go_upto_region 1 with fail
    rw [← hW]
    clear hW
    go_wp2_with (first | (go_at_call 19; ((with_reducible refine (CO.out).mono ?_); rintro e w1 ⟨rfl, b1⟩; have HB_w1 := Lib.hid b1; have HK1 := Lib.hid (below_block b1 HK0.out); obtain ⟨p0, p1, p2⟩ := tok3_cells HK1.out; clear CO b1 q0 q1 q2)) | (go_at_call 20; ((with_reducible refine (CC.out _).mono ?_); rintro e w2 ⟨A, cap, rfl, _, B1, b2⟩; have HB_w2 := Lib.hid b2; have HS := Lib.hid B1; have HK2 := Lib.hid (below_block b2 HK1.out); obtain ⟨r0, r1, r2⟩ := tok3_cells HK2.out; clear CC b2 B1 p0 p1 p2)) | (go_at_call 24; ((with_reducible refine (CP.out _).mono ?_); rintro e w3 ⟨rfl, b_w3⟩; have HB_w3 := Lib.hid b_w3; clear b_w3)))
    go_ret
    exact ⟨rfl, below_next HB0.out (below_next HB_w1.out (below_next HB_w2.out HB_w3.out))⟩
  · skip
    have CP := Lib.hid (fun W => rnumber_str n W)
    have hzn := Pr.nC_size n
    have CN : Hid (∀ (A : Option Addr) (cap : Nat) (W : World), Bs W W.heap.size .i64 A cs → Calls Tryd.prog 22 #[.slice A cs.length cap, .bool true] W (Sg (Tk.str (Pr.nm true cs)) W)) := Lib.hid fun A cap W h => name_any true cs HI.out (by omega) A cap W h
    have hz := Pr.nm_size true HI.out
    have e : Tk.str (Pr.tokC (10, cs, n)) = Tk.str (Pr.nC n) ++ Tk.str (Pr.nm true cs) := Pr.str_app (Pr.nC n) (Pr.nm true cs)
    rw [e]
    clear e
    generalize Tk.str (Pr.nC n) = X at *
    generalize Tk.str (Pr.nm true cs) = Y at *
    generalize Tk.str cs = t at *
    clear HI
    go_enter Tryd.func9, Tryd.ntmps9
    go_upto_region 1 with fail
    rw [← hW]
    clear hW
    go_wp2_with (first | (go_at_call 19; ((with_reducible refine (CO.out).mono ?_); rintro e w1 ⟨rfl, b1⟩; have HB_w1 := Lib.hid b1; have HK1 := Lib.hid (below_block b1 HK0.out); obtain ⟨p0, p1, p2⟩ := tok3_cells HK1.out; clear CO b1 q0 q1 q2)) | (go_at_call 20; ((with_reducible refine (CC.out _).mono ?_); rintro e w2 ⟨A, cap, rfl, _, B1, b2⟩; have HB_w2 := Lib.hid b2; have HS := Lib.hid B1; have HK2 := Lib.hid (below_block b2 HK1.out); obtain ⟨r0, r1, r2⟩ := tok3_cells HK2.out; clear CC b2 B1 p0 p1 p2)) | (go_at_call 24; ((with_reducible refine (CP.out _).mono ?_); rintro e w3 ⟨rfl, b_w3⟩; have HB_w3 := Lib.hid b_w3; clear b_w3)) | (go_at_call 22; ((with_reducible refine (CN.out A cap _ (HS.out.next HB_w3.out)).mono ?_); rintro e w4 ⟨rfl, b_w4⟩; have HB_w4 := Lib.hid b_w4; clear b_w4)))
    go_ret
    exact ⟨rfl, below_next HB0.out (below_next HB_w1.out (below_next HB_w2.out (below_next HB_w3.out HB_w4.out)))⟩
  · skip
    have e : Tk.str (Pr.tokC (11, cs, n)) = Tk.str cs := rfl
    rw [e]
    clear e
    generalize Tk.str cs = t at *
    clear HI
    go_enter Tryd.func9, Tryd.ntmps9
    go_upto_region 1 with fail
    rw [← hW]
    clear hW
    go_wp2_with (first | (go_at_call 19; ((with_reducible refine (CO.out).mono ?_); rintro e w1 ⟨rfl, b1⟩; have HB_w1 := Lib.hid b1; have HK1 := Lib.hid (below_block b1 HK0.out); obtain ⟨p0, p1, p2⟩ := tok3_cells HK1.out; clear CO b1 q0 q1 q2)) | (go_at_call 20; ((with_reducible refine (CC.out _).mono ?_); rintro e w2 ⟨A, cap, rfl, _, B1, b2⟩; have HB_w2 := Lib.hid b2; have HS := Lib.hid B1; have HK2 := Lib.hid (below_block b2 HK1.out); obtain ⟨r0, r1, r2⟩ := tok3_cells HK2.out; clear CC b2 B1 p0 p1 p2)))
    go_ret
    exact ⟨rfl, below_next HB0.out (below_next HB_w1.out HB_w2.out)⟩
  · skip
    have e : Tk.str (Pr.tokC (12, cs, n)) = Tk.str cs := rfl
    rw [e]
    clear e
    generalize Tk.str cs = t at *
    clear HI
    go_enter Tryd.func9, Tryd.ntmps9
    go_upto_region 1 with fail
    rw [← hW]
    clear hW
    go_wp2_with (first | (go_at_call 19; ((with_reducible refine (CO.out).mono ?_); rintro e w1 ⟨rfl, b1⟩; have HB_w1 := Lib.hid b1; have HK1 := Lib.hid (below_block b1 HK0.out); obtain ⟨p0, p1, p2⟩ := tok3_cells HK1.out; clear CO b1 q0 q1 q2)) | (go_at_call 20; ((with_reducible refine (CC.out _).mono ?_); rintro e w2 ⟨A, cap, rfl, _, B1, b2⟩; have HB_w2 := Lib.hid b2; have HS := Lib.hid B1; have HK2 := Lib.hid (below_block b2 HK1.out); obtain ⟨r0, r1, r2⟩ := tok3_cells HK2.out; clear CC b2 B1 p0 p1 p2)))
    go_ret
    exact ⟨rfl, below_next HB0.out (below_next HB_w1.out HB_w2.out)⟩
  · skip
    have e : Tk.str (Pr.tokC (13, cs, n)) = Tk.str cs := rfl
    rw [e]
    clear e
    generalize Tk.str cs = t at *
    clear HI
    go_enter Tryd.func9, Tryd.ntmps9
    go_upto_region 1 with fail
    rw [← hW]
    clear hW
    go_wp2_with (first | (go_at_call 19; ((with_reducible refine (CO.out).mono ?_); rintro e w1 ⟨rfl, b1⟩; have HB_w1 := Lib.hid b1; have HK1 := Lib.hid (below_block b1 HK0.out); obtain ⟨p0, p1, p2⟩ := tok3_cells HK1.out; clear CO b1 q0 q1 q2)) | (go_at_call 20; ((with_reducible refine (CC.out _).mono ?_); rintro e w2 ⟨A, cap, rfl, _, B1, b2⟩; have HB_w2 := Lib.hid b2; have HS := Lib.hid B1; have HK2 := Lib.hid (below_block b2 HK1.out); obtain ⟨r0, r1, r2⟩ := tok3_cells HK2.out; clear CC b2 B1 p0 p1 p2)))
    go_ret
    exact ⟨rfl, below_next HB0.out (below_next HB_w1.out HB_w2.out)⟩
  · skip
    have e : Tk.str (Pr.tokC (14, cs, n)) = ⟨#[58]⟩ := rfl
    rw [e]
    clear e
    generalize Tk.str cs = t at *
    clear HI
    go_enter Tryd.func9, Tryd.ntmps9
    go_upto_region 1 with fail
    rw [← hW]
    clear hW
    go_wp2_with (first | (go_at_call 19; ((with_reducible refine (CO.out).mono ?_); rintro e w1 ⟨rfl, b1⟩; have HB_w1 := Lib.hid b1; have HK1 := Lib.hid (below_block b1 HK0.out); obtain ⟨p0, p1, p2⟩ := tok3_cells HK1.out; clear CO b1 q0 q1 q2)) | (go_at_call 20; ((with_reducible refine (CC.out _).mono ?_); rintro e w2 ⟨A, cap, rfl, _, B1, b2⟩; have HB_w2 := Lib.hid b2; have HS := Lib.hid B1; have HK2 := Lib.hid (below_block b2 HK1.out); obtain ⟨r0, r1, r2⟩ := tok3_cells HK2.out; clear CC b2 B1 p0 p1 p2)))
    go_ret
    exact ⟨rfl, below_next HB0.out (below_next HB_w1.out HB_w2.out)⟩
  · skip
    have e : Tk.str (Pr.tokC (15, cs, n)) = ⟨#[59]⟩ := rfl
    rw [e]
    clear e
    generalize Tk.str cs = t at *
    clear HI
    go_enter Tryd.func9, Tryd.ntmps9
    go_upto_region 1 with fail
    rw [← hW]
    clear hW
    go_wp2_with (first | (go_at_call 19; ((with_reducible refine (CO.out).mono ?_); rintro e w1 ⟨rfl, b1⟩; have HB_w1 := Lib.hid b1; have HK1 := Lib.hid (below_block b1 HK0.out); obtain ⟨p0, p1, p2⟩ := tok3_cells HK1.out; clear CO b1 q0 q1 q2)) | (go_at_call 20; ((with_reducible refine (CC.out _).mono ?_); rintro e w2 ⟨A, cap, rfl, _, B1, b2⟩; have HB_w2 := Lib.hid b2; have HS := Lib.hid B1; have HK2 := Lib.hid (below_block b2 HK1.out); obtain ⟨r0, r1, r2⟩ := tok3_cells HK2.out; clear CC b2 B1 p0 p1 p2)))
    go_ret
    exact ⟨rfl, below_next HB0.out (below_next HB_w1.out HB_w2.out)⟩
  · skip
    have e : Tk.str (Pr.tokC (16, cs, n)) = ⟨#[44]⟩ := rfl
    rw [e]
    clear e
    generalize Tk.str cs = t at *
    clear HI
    go_enter Tryd.func9, Tryd.ntmps9
    go_upto_region 1 with fail
    rw [← hW]
    clear hW
    go_wp2_with (first | (go_at_call 19; ((with_reducible refine (CO.out).mono ?_); rintro e w1 ⟨rfl, b1⟩; have HB_w1 := Lib.hid b1; have HK1 := Lib.hid (below_block b1 HK0.out); obtain ⟨p0, p1, p2⟩ := tok3_cells HK1.out; clear CO b1 q0 q1 q2)) | (go_at_call 20; ((with_reducible refine (CC.out _).mono ?_); rintro e w2 ⟨A, cap, rfl, _, B1, b2⟩; have HB_w2 := Lib.hid b2; have HS := Lib.hid B1; have HK2 := Lib.hid (below_block b2 HK1.out); obtain ⟨r0, r1, r2⟩ := tok3_cells HK2.out; clear CC b2 B1 p0 p1 p2)))
    go_ret
    exact ⟨rfl, below_next HB0.out (below_next HB_w1.out HB_w2.out)⟩
end Go.Proofs.YtgcmjkimiakibaaDoor
