/-
  The walk of the reference's One.
-/
import Derived.Test.YtkcabpjfgbghjaaGreatDoorGag
import Derived.Test.YtkcabpjfgbghjaaGreatDoorGao
import Derived.BigQuiet
import Derived.Deep.QuietTactic
set_option maxHeartbeats 16000000
set_option maxRecDepth 100000
namespace Go.Proofs.YtkcabpjfgbghjaaGreatDoor
open Go.RowKit
theorem chars_yes {t : ByteArray} {cs : List Int} (h : Pr.Txt t cs) (hm : t.size <= 90000) (w : World) :
 Calls Tryz.prog 146 #[.string t] w fun e w' => ∃ (A : Option Addr) (cap : Nat), e = .returned (.tuple #[.slice A cs.length cap, .bool true]) /\ cs.length <= cap /\ Bs w' w'.heap.size .i64 A cs /\ Below w.heap.size w w' := by
 refine (chars_any t hm w).mono ?_
 rintro e w' (⟨cs', A, cap, hx, rfl, hc, hb, hw⟩ | ⟨hn, _⟩)
 ·obtain rfl := Pr.wr_inj hx.2 h.2 (hx.1.symm.trans h.1)
  exact ⟨A, cap, rfl, hc, hb, hw⟩
 ·exact absurd ⟨cs, h⟩ hn
theorem chars_no {t : ByteArray} (h : ¬ ∃ cs, Pr.Txt t cs) (hm : t.size <= 90000) (w : World) :
 Calls Tryz.prog 146 #[.string t] w fun e w' => e = .returned (.tuple #[.slice none 0 0, .bool false]) /\ Below w.heap.size w w' := by
 refine (chars_any t hm w).mono ?_
 rintro e w' (⟨cs', A, cap, hx, _⟩ | ⟨_, rfl, hw⟩)
 ·exact absurd ⟨cs', hx⟩ h
 ·exact ⟨rfl, hw⟩
namespace Pr
open Ru Tk
theorem oneU_txt {k n : Int} {t : ByteArray} {cs : List Int} (h : Txt t cs) : OneU (k, t, n) ↔ ((0 : Int) ∉ cs /\ Kd k cs n) := by
 rw [oneU_iff]
 constructor
 ·rintro ⟨cs', hx, ho, hk⟩
  obtain rfl := wr_inj hx.2 h.2 (hx.1.symm.trans h.1)
  exact ⟨fun h0 => (ho 0 h0).2 rfl, hk⟩
 ·rintro ⟨h0, hk⟩
  exact ⟨cs, h, fun c hc => ⟨h.2 c hc, fun e => h0 (e ▸ hc)⟩, hk⟩
theorem oneU_not {k n : Int} {t : ByteArray} (h : ¬ ∃ cs, Txt t cs) : ¬ OneU (k, t, n) := fun ho => by
 obtain ⟨cs, hx, _⟩ := (oneU_iff k n t).1 ho
 exact h ⟨cs, hx⟩
theorem kd1 {cs : List Int} {n : Int} : Kd 1 cs n ↔ cs = [] /\ n = 0 := by simp [Kd]
theorem kd2 {cs : List Int} {n : Int} : Kd 2 cs n ↔ cs ≠ [] /\ n = 0 := by simp [Kd]
theorem kd3 {cs : List Int} {n : Int} : Kd 3 cs n ↔ cs ≠ [] /\ n = 0 := by simp [Kd]
theorem kd4 {cs : List Int} {n : Int} : Kd 4 cs n ↔ cs ≠ [] /\ n = 0 := by simp [Kd]
theorem kd5 {cs : List Int} {n : Int} : Kd 5 cs n ↔ cs ≠ [] /\ n = 0 := by simp [Kd]
theorem kd6 {cs : List Int} {n : Int} : Kd 6 cs n ↔ n = 0 := by simp [Kd]
theorem kd7 {cs : List Int} {n : Int} : Kd 7 cs n ↔ n = 0 := by simp [Kd]
theorem kd8 {cs : List Int} {n : Int} : Kd 8 cs n ↔ cs = [] /\ n = Fx.stop n := by simp [Kd]
theorem kd9 {cs : List Int} {n : Int} : Kd 9 cs n ↔ cs = [] /\ n = Fx.stop n := by simp [Kd]
theorem kd10 {cs : List Int} {n : Int} : Kd 10 cs n ↔ cs ≠ [] /\ n = Fx.stop n := by simp [Kd]
theorem kd11 {cs : List Int} {n : Int} : Kd 11 cs n ↔ (∃ c, cs = [c] /\ Del c) /\ n = 0 := by simp [Kd]
theorem kd12 {cs : List Int} {n : Int} : Kd 12 cs n ↔ (cs = [40] ∨ cs = [91] ∨ cs = [123]) /\ n = 0 := by simp [Kd]
theorem kd13 {cs : List Int} {n : Int} : Kd 13 cs n ↔ (cs = [41] ∨ cs = [93] ∨ cs = [125]) /\ n = 0 := by simp [Kd]
theorem kd14 {cs : List Int} {n : Int} : Kd 14 cs n ↔ cs = [] /\ n = 0 := by simp [Kd]
theorem kd15 {cs : List Int} {n : Int} : Kd 15 cs n ↔ cs = [] /\ n = 0 := by simp [Kd]
theorem kd16 {cs : List Int} {n : Int} : Kd 16 cs n ↔ cs = [] /\ n = 0 := by simp [Kd]
theorem kd_out {k : Int} {cs : List Int} {n : Int} (h : k < 1 ∨ 16 < k) : ¬ Kd k cs n := fun hk => by
 unfold Kd at hk
 omega
theorem ne_len {cs : List Int} : cs ≠ [] ↔ 0 < cs.length := by cases cs <;> simp
theorem eq_len {cs : List Int} : cs = [] ↔ cs.length = 0 := by cases cs <;> simp
def gaps : List Int := [9, 10, 12, 13, 32, 34, 39, 40, 41, 91, 93, 123, 125, 58, 59, 44]
theorem del_gaps {c : Int} : Del c ↔ (begB c = false /\ ¬ (48 <= c /\ c <= 57) /\ c ∉ gaps) := by
 unfold Del gaps
 simp
theorem kd11' {x : Int} {n : Int} : Kd 11 [x] n ↔ Del x /\ n = 0 := by
 rw [kd11]
 constructor
 ·rintro ⟨⟨c, e, h⟩, hn⟩
  obtain rfl : x = c := by simpa using e
  exact ⟨h, hn⟩
 ·rintro ⟨h, hn⟩; exact ⟨⟨x, rfl, h⟩, hn⟩
theorem kd12' {x : Int} {n : Int} : Kd 12 [x] n ↔ x ∈ [40, 91, 123] /\ n = 0 := by
 rw [kd12]; simp
theorem kd13' {x : Int} {n : Int} : Kd 13 [x] n ↔ x ∈ [41, 93, 125] /\ n = 0 := by
 rw [kd13]; simp
theorem kd11n {cs : List Int} {n : Int} (h : cs.length ≠ 1) : ¬ Kd 11 cs n := fun hk => by
 rw [kd11] at hk
 obtain ⟨⟨c, rfl, _⟩, _⟩ := hk
 exact h rfl
theorem kd12n {cs : List Int} {n : Int} (h : cs.length ≠ 1) : ¬ Kd 12 cs n := fun hk => by
 rw [kd12] at hk
 rcases hk.1 with rfl | rfl | rfl <;> exact h rfl
theorem kd13n {cs : List Int} {n : Int} (h : cs.length ≠ 1) : ¬ Kd 13 cs n := fun hk => by
 rw [kd13] at hk
 rcases hk.1 with rfl | rfl | rfl <;> exact h rfl
theorem kd_nn {k : Int} {cs : List Int} {n : Int} (h : k < 8 ∨ 10 < k) (hn : n ≠ 0) : ¬ Kd k cs n := fun hk => by
 unfold Kd at hk
 omega
theorem kd_ns {k : Int} {cs : List Int} {n : Int} (h : 8 <= k) (h2 : k <= 10) (hn : n ≠ Fx.stop n) : ¬ Kd k cs n := fun hk => by
 unfold Kd at hk
 generalize Fx.stop n = m at *
 omega
theorem b_false {b : Bool} {P : Prop} (h : b = true ↔ P) (hn : ¬ P) : b = false := by
 cases b with
 | false => rfl
 | true => exact absurd (h.1 rfl) hn
end Pr
theorem rone_any (k n : Int) (t : ByteArray) (hm : t.size <= 90000) (b : Bool) (hb : b = true ↔ Pr.OneU (k, t, n)) (w : World) :
 Calls Tryz.prog 82 #[tokV k t n] w (Bo b w) := by
 obtain ⟨W0, hW⟩ : ∃ W0, W0 = w.alloc (.cells #[.int .i64 k, .string t, .int .i64 n] 61) := ⟨_, rfl⟩
 have hb0 : Below w.heap.size w W0 := by rw [hW]; exact (Below.refl _ _).alloc (Nat.le_refl _) _
 have k0 : W0.heap[w.heap.size]? = some (.cells #[.int .i64 k, .string t, .int .i64 n] 61 (0, 0)) := by rw [hW]; exact heap_alloc_new w _
 obtain ⟨q0, q1, q2⟩ := tok3_cells k0
 have HK0 := Lib.hid k0
 have HB0 := Lib.hid hb0
 unfold tokV
 by_cases hx : ∃ cs, Pr.Txt t cs
 ·obtain ⟨cs, hx⟩ := hx
  have C := Lib.hid (chars_yes hx hm W0)
  have HB := Lib.hid (hb.trans (Pr.oneU_txt hx))
  have hcl : cs.length <= 90000 := by
   have := Pr.wr_len_ge cs
   rw [<- Pr.txt_size hx] at this
   omega
  clear hb hb0 k0 hx
  by_cases hz : (0 : Int) ∈ cs
  ·have HN : Hid (b = false) := Lib.hid (Pr.b_false HB.out (fun h => h.1 hz))
   have HI : Hid (∀ (A : Option Addr) (cap B : Nat) (W : World), Bs W B .i64 A cs -> Calls Tryz.prog 147 #[.slice A cs.length cap, .int .i64 0] W fun e w' => e = .returned (.bool true) /\ W = w') := Lib.hid fun A cap B W h => in_any cs 0 A cap B W h (by omega) true (by simp [hz])
   clear HB hz q0 q2
   go_enter Tryz.func82, Tryz.ntmps82
   go_upto_region 1 with fail
   rw [<- hW]
   clear hW
   go_wp2_with (first | (go_at_call 146; ((with_reducible refine (C.out).mono ?_); rintro e w1 ⟨A, cap, rfl, hc1, B1, b1⟩; have CI := Lib.hid (HI.out A cap _ _ B1); have HB1 := Lib.hid b1; clear B1 b1 C)) | (go_at_call 147; ((with_reducible refine (CI.out).mono ?_); rintro e w2 ⟨rfl, rfl⟩)))
   go_ret
   exact ⟨by rw [HN.out]; rfl, below_next HB0.out HB1.out⟩
  ·have HBk : Hid (b = true ↔ Pr.Kd k cs n) := Lib.hid (HB.out.trans ⟨fun h => h.2, fun h => ⟨hz, h⟩⟩)
   have HI : Hid (∀ (A : Option Addr) (cap B : Nat) (W : World), Bs W B .i64 A cs -> Calls Tryz.prog 147 #[.slice A cs.length cap, .int .i64 0] W fun e w' => e = .returned (.bool false) /\ W = w') := Lib.hid fun A cap B W h => in_any cs 0 A cap B W h (by omega) false (by simp [hz])
   clear HB hz q0 q2
   go_enter Tryz.func82, Tryz.ntmps82
   go_upto_region 1 with fail
   rw [<- hW]
   clear hW
   go_upto_region 4 with (first | (go_at_call 146; ((with_reducible refine (C.out).mono ?_); rintro e w1 ⟨A, cap, rfl, hc1, B1, b1⟩; have CI := Lib.hid (HI.out A cap _ _ B1); have HB1 := Lib.hid b1; have HS := Lib.hid B1; have HK1 := Lib.hid (below_block b1 HK0.out); clear B1 b1 C)) | (go_at_call 147; ((with_reducible refine (CI.out).mono ?_); rintro e w2 ⟨rfl, rfl⟩)))
   obtain ⟨q0, q1', q2⟩ := tok3_cells HK1.out
   clear CI HI q1 q1' HK0 HK1
   have HBB := Lib.hid (below_next HB0.out HB1.out)
   clear HB0 HB1 hc1
   by_cases hin : 1 <= k /\ k <= 16
   ·have hk : k = 1 ∨ k = 2 ∨ k = 3 ∨ k = 4 ∨ k = 5 ∨ k = 6 ∨ k = 7 ∨ k = 8 ∨ k = 9 ∨ k = 10 ∨ k = 11 ∨ k = 12 ∨ k = 13 ∨ k = 14 ∨ k = 15 ∨ k = 16 := by omega
    clear hin
    rcases hk with rfl | rfl | rfl | rfl | rfl | rfl | rfl | rfl | rfl | rfl | rfl | rfl | rfl | rfl | rfl | rfl
    ·skip
     by_cases hn : n = 0
     ·have en : (n != 0) = false := Ru.ne_f hn
      have HN' := Lib.hid hn
      clear hn
      by_cases hl : cs.length = 0
      ·have el : ((cs.length : Int) == 0) = true := Ru.eq_t (by omega)
       have HV : Hid (b = true) := Lib.hid (HBk.out.2 (Pr.kd1.2 ⟨Pr.eq_len.2 hl, HN'.out⟩))
       clear HBk
       go_wp2_with (fail)
       go_ret
       exact ⟨by rw [HV.out]; rfl, HBB.out⟩
      ·have el : ((cs.length : Int) == 0) = false := Ru.eq_f (by omega)
       have HV : Hid (b = false) := Lib.hid (Pr.b_false HBk.out (fun h => hl (Pr.eq_len.1 (Pr.kd1.1 h).1)))
       clear HBk
       go_wp2_with (fail)
       go_ret
       exact ⟨by rw [HV.out]; rfl, HBB.out⟩
     ·have en : (n != 0) = true := Ru.ne_t hn
      have HV : Hid (b = false) := Lib.hid (Pr.b_false HBk.out (Pr.kd_nn (by omega) hn))
      clear HBk hn
      go_wp2_with (fail)
      go_ret
      exact ⟨by rw [HV.out]; rfl, HBB.out⟩
    ·skip
     by_cases hn : n = 0
     ·have en : (n != 0) = false := Ru.ne_f hn
      have HN' := Lib.hid hn
      clear hn
      by_cases hl : 0 < cs.length
      ·have el : decide (0 < cs.length) = true := decide_eq_true hl
       have HV : Hid (b = true) := Lib.hid (HBk.out.2 (Pr.kd2.2 ⟨Pr.ne_len.2 hl, HN'.out⟩))
       clear HBk
       go_wp2_with (fail)
       go_ret
       exact ⟨by rw [HV.out]; rfl, HBB.out⟩
      ·have el : decide (0 < cs.length) = false := decide_eq_false hl
       have HV : Hid (b = false) := Lib.hid (Pr.b_false HBk.out (fun h => hl (Pr.ne_len.1 (Pr.kd2.1 h).1)))
       clear HBk
       go_wp2_with (fail)
       go_ret
       exact ⟨by rw [HV.out]; rfl, HBB.out⟩
     ·have en : (n != 0) = true := Ru.ne_t hn
      have HV : Hid (b = false) := Lib.hid (Pr.b_false HBk.out (Pr.kd_nn (by omega) hn))
      clear HBk hn
      go_wp2_with (fail)
      go_ret
      exact ⟨by rw [HV.out]; rfl, HBB.out⟩
    ·skip
     by_cases hn : n = 0
     ·have en : (n != 0) = false := Ru.ne_f hn
      have HN' := Lib.hid hn
      clear hn
      by_cases hl : 0 < cs.length
      ·have el : decide (0 < cs.length) = true := decide_eq_true hl
       have HV : Hid (b = true) := Lib.hid (HBk.out.2 (Pr.kd3.2 ⟨Pr.ne_len.2 hl, HN'.out⟩))
       clear HBk
       go_wp2_with (fail)
       go_ret
       exact ⟨by rw [HV.out]; rfl, HBB.out⟩
      ·have el : decide (0 < cs.length) = false := decide_eq_false hl
       have HV : Hid (b = false) := Lib.hid (Pr.b_false HBk.out (fun h => hl (Pr.ne_len.1 (Pr.kd3.1 h).1)))
       clear HBk
       go_wp2_with (fail)
       go_ret
       exact ⟨by rw [HV.out]; rfl, HBB.out⟩
     ·have en : (n != 0) = true := Ru.ne_t hn
      have HV : Hid (b = false) := Lib.hid (Pr.b_false HBk.out (Pr.kd_nn (by omega) hn))
      clear HBk hn
      go_wp2_with (fail)
      go_ret
      exact ⟨by rw [HV.out]; rfl, HBB.out⟩
    ·skip
     by_cases hn : n = 0
     ·have en : (n != 0) = false := Ru.ne_f hn
      have HN' := Lib.hid hn
      clear hn
      by_cases hl : 0 < cs.length
      ·have el : decide (0 < cs.length) = true := decide_eq_true hl
       have HV : Hid (b = true) := Lib.hid (HBk.out.2 (Pr.kd4.2 ⟨Pr.ne_len.2 hl, HN'.out⟩))
       clear HBk
       go_wp2_with (fail)
       go_ret
       exact ⟨by rw [HV.out]; rfl, HBB.out⟩
      ·have el : decide (0 < cs.length) = false := decide_eq_false hl
       have HV : Hid (b = false) := Lib.hid (Pr.b_false HBk.out (fun h => hl (Pr.ne_len.1 (Pr.kd4.1 h).1)))
       clear HBk
       go_wp2_with (fail)
       go_ret
       exact ⟨by rw [HV.out]; rfl, HBB.out⟩
     ·have en : (n != 0) = true := Ru.ne_t hn
      have HV : Hid (b = false) := Lib.hid (Pr.b_false HBk.out (Pr.kd_nn (by omega) hn))
      clear HBk hn
      go_wp2_with (fail)
      go_ret
      exact ⟨by rw [HV.out]; rfl, HBB.out⟩
    ·skip
     by_cases hn : n = 0
     ·have en : (n != 0) = false := Ru.ne_f hn
      have HN' := Lib.hid hn
      clear hn
      by_cases hl : 0 < cs.length
      ·have el : decide (0 < cs.length) = true := decide_eq_true hl
       have HV : Hid (b = true) := Lib.hid (HBk.out.2 (Pr.kd5.2 ⟨Pr.ne_len.2 hl, HN'.out⟩))
       clear HBk
       go_wp2_with (fail)
       go_ret
       exact ⟨by rw [HV.out]; rfl, HBB.out⟩
      ·have el : decide (0 < cs.length) = false := decide_eq_false hl
       have HV : Hid (b = false) := Lib.hid (Pr.b_false HBk.out (fun h => hl (Pr.ne_len.1 (Pr.kd5.1 h).1)))
       clear HBk
       go_wp2_with (fail)
       go_ret
       exact ⟨by rw [HV.out]; rfl, HBB.out⟩
     ·have en : (n != 0) = true := Ru.ne_t hn
      have HV : Hid (b = false) := Lib.hid (Pr.b_false HBk.out (Pr.kd_nn (by omega) hn))
      clear HBk hn
      go_wp2_with (fail)
      go_ret
      exact ⟨by rw [HV.out]; rfl, HBB.out⟩
    ·skip
     by_cases hn : n = 0
     ·have en : (n != 0) = false := Ru.ne_f hn
      have HN' := Lib.hid hn
      clear hn
      have HV : Hid (b = true) := Lib.hid (HBk.out.2 (Pr.kd6.2 HN'.out))
      clear HBk
      go_wp2_with (fail)
      go_ret
      exact ⟨by rw [HV.out]; rfl, HBB.out⟩
     ·have en : (n != 0) = true := Ru.ne_t hn
      have HV : Hid (b = false) := Lib.hid (Pr.b_false HBk.out (Pr.kd_nn (by omega) hn))
      clear HBk hn
      go_wp2_with (fail)
      go_ret
      exact ⟨by rw [HV.out]; rfl, HBB.out⟩
    ·skip
     by_cases hn : n = 0
     ·have en : (n != 0) = false := Ru.ne_f hn
      have HN' := Lib.hid hn
      clear hn
      have HV : Hid (b = true) := Lib.hid (HBk.out.2 (Pr.kd7.2 HN'.out))
      clear HBk
      go_wp2_with (fail)
      go_ret
      exact ⟨by rw [HV.out]; rfl, HBB.out⟩
     ·have en : (n != 0) = true := Ru.ne_t hn
      have HV : Hid (b = false) := Lib.hid (Pr.b_false HBk.out (Pr.kd_nn (by omega) hn))
      clear HBk hn
      go_wp2_with (fail)
      go_ret
      exact ⟨by rw [HV.out]; rfl, HBB.out⟩
    ·skip
     have CS := Lib.hid (fun W => rstop_any n W)
     by_cases hn : n = Fx.stop n
     ·have en : (n != Fx.stop n) = false := Ru.ne_f hn
      have HN' := Lib.hid hn
      clear hn
      by_cases hl : cs.length = 0
      ·have el : ((cs.length : Int) == 0) = true := Ru.eq_t (by omega)
       have HV : Hid (b = true) := Lib.hid (HBk.out.2 (Pr.kd8.2 ⟨Pr.eq_len.2 hl, HN'.out⟩))
       clear HBk
       go_upto_region 7 with fail
       go_quiet ((go_at_call 148; exact Calls.quiet_of_same ((CS.out _).mono fun _ _ h => ⟨h.1, h.2.symm⟩)))
       go_wp2_with (fail)
       go_ret
       exact ⟨by rw [HV.out]; rfl, below_drewN HBB.out _⟩
      ·have el : ((cs.length : Int) == 0) = false := Ru.eq_f (by omega)
       have HV : Hid (b = false) := Lib.hid (Pr.b_false HBk.out (fun h => hl (Pr.eq_len.1 (Pr.kd8.1 h).1)))
       clear HBk
       go_upto_region 7 with fail
       go_quiet ((go_at_call 148; exact Calls.quiet_of_same ((CS.out _).mono fun _ _ h => ⟨h.1, h.2.symm⟩)))
       go_wp2_with (fail)
       go_ret
       exact ⟨by rw [HV.out]; rfl, below_drewN HBB.out _⟩
     ·have en : (n != Fx.stop n) = true := Ru.ne_t hn
      have HV : Hid (b = false) := Lib.hid (Pr.b_false HBk.out (Pr.kd_ns (by omega) (by omega) hn))
      clear HBk hn
      go_upto_region 7 with fail
      go_quiet ((go_at_call 148; exact Calls.quiet_of_same ((CS.out _).mono fun _ _ h => ⟨h.1, h.2.symm⟩)))
      go_wp2_with (fail)
      go_ret
      exact ⟨by rw [HV.out]; rfl, below_drewN HBB.out _⟩
    ·skip
     have CS := Lib.hid (fun W => rstop_any n W)
     by_cases hn : n = Fx.stop n
     ·have en : (n != Fx.stop n) = false := Ru.ne_f hn
      have HN' := Lib.hid hn
      clear hn
      by_cases hl : cs.length = 0
      ·have el : ((cs.length : Int) == 0) = true := Ru.eq_t (by omega)
       have HV : Hid (b = true) := Lib.hid (HBk.out.2 (Pr.kd9.2 ⟨Pr.eq_len.2 hl, HN'.out⟩))
       clear HBk
       go_upto_region 7 with fail
       go_quiet ((go_at_call 148; exact Calls.quiet_of_same ((CS.out _).mono fun _ _ h => ⟨h.1, h.2.symm⟩)))
       go_wp2_with (fail)
       go_ret
       exact ⟨by rw [HV.out]; rfl, below_drewN HBB.out _⟩
      ·have el : ((cs.length : Int) == 0) = false := Ru.eq_f (by omega)
       have HV : Hid (b = false) := Lib.hid (Pr.b_false HBk.out (fun h => hl (Pr.eq_len.1 (Pr.kd9.1 h).1)))
       clear HBk
       go_upto_region 7 with fail
       go_quiet ((go_at_call 148; exact Calls.quiet_of_same ((CS.out _).mono fun _ _ h => ⟨h.1, h.2.symm⟩)))
       go_wp2_with (fail)
       go_ret
       exact ⟨by rw [HV.out]; rfl, below_drewN HBB.out _⟩
     ·have en : (n != Fx.stop n) = true := Ru.ne_t hn
      have HV : Hid (b = false) := Lib.hid (Pr.b_false HBk.out (Pr.kd_ns (by omega) (by omega) hn))
      clear HBk hn
      go_upto_region 7 with fail
      go_quiet ((go_at_call 148; exact Calls.quiet_of_same ((CS.out _).mono fun _ _ h => ⟨h.1, h.2.symm⟩)))
      go_wp2_with (fail)
      go_ret
      exact ⟨by rw [HV.out]; rfl, below_drewN HBB.out _⟩
    ·skip
     have CS := Lib.hid (fun W => rstop_any n W)
     by_cases hn : n = Fx.stop n
     ·have en : (n != Fx.stop n) = false := Ru.ne_f hn
      have HN' := Lib.hid hn
      clear hn
      by_cases hl : 0 < cs.length
      ·have el : decide (0 < cs.length) = true := decide_eq_true hl
       have HV : Hid (b = true) := Lib.hid (HBk.out.2 (Pr.kd10.2 ⟨Pr.ne_len.2 hl, HN'.out⟩))
       clear HBk
       go_upto_region 7 with fail
       go_quiet ((go_at_call 148; exact Calls.quiet_of_same ((CS.out _).mono fun _ _ h => ⟨h.1, h.2.symm⟩)))
       go_wp2_with (fail)
       go_ret
       exact ⟨by rw [HV.out]; rfl, below_drewN HBB.out _⟩
      ·have el : decide (0 < cs.length) = false := decide_eq_false hl
       have HV : Hid (b = false) := Lib.hid (Pr.b_false HBk.out (fun h => hl (Pr.ne_len.1 (Pr.kd10.1 h).1)))
       clear HBk
       go_upto_region 7 with fail
       go_quiet ((go_at_call 148; exact Calls.quiet_of_same ((CS.out _).mono fun _ _ h => ⟨h.1, h.2.symm⟩)))
       go_wp2_with (fail)
       go_ret
       exact ⟨by rw [HV.out]; rfl, below_drewN HBB.out _⟩
     ·have en : (n != Fx.stop n) = true := Ru.ne_t hn
      have HV : Hid (b = false) := Lib.hid (Pr.b_false HBk.out (Pr.kd_ns (by omega) (by omega) hn))
      clear HBk hn
      go_upto_region 7 with fail
      go_quiet ((go_at_call 148; exact Calls.quiet_of_same ((CS.out _).mono fun _ _ h => ⟨h.1, h.2.symm⟩)))
      go_wp2_with (fail)
      go_ret
      exact ⟨by rw [HV.out]; rfl, below_drewN HBB.out _⟩
    ·skip
     by_cases hn : n = 0
     ·have en : (n != 0) = false := Ru.ne_f hn
      have HN' := Lib.hid hn
      clear hn
      by_cases hl : cs.length = 1
      ·obtain ⟨x, rfl⟩ := List.length_eq_one_iff.1 hl
       obtain ⟨bb, off, rfl, hbb, hp⟩ := HS.out (by simp)
       have hc := hp 0 (by simp)
       rw [Nat.add_zero, show Ru.g [x] 0 = x from rfl] at hc
       clear hp hl hcl
       have HBx : Hid (b = true ↔ (Ru.begB x = false /\ ¬ (48 <= x /\ x <= 57) /\ x ∉ Pr.gaps)) := Lib.hid (HBk.out.trans (Pr.kd11'.trans ⟨fun h => Pr.del_gaps.1 h.1, fun h => ⟨Pr.del_gaps.2 h, HN'.out⟩⟩))
       have CG := Lib.hid (fun W => rbegins_any x W)
       clear HBk HS
       cases hbg : Ru.begB x
       ·rw [hbg] at CG HBx
        clear hbg
        by_cases q1 : 48 <= x
        ·have d1 : decide (48 <= x) = true := decide_eq_true q1
         by_cases q2 : x <= 57
         ·have d2 : decide (x <= 57) = true := decide_eq_true q2
          have HV : Hid (b = false) := Lib.hid (Pr.b_false HBx.out (fun h => h.2.1 ⟨q1, q2⟩))
          clear HBx
          go_wp2_with (first | (go_at_call 149; ((with_reducible refine (CG.out _).mono ?_); rintro e w4 ⟨rfl, rfl⟩)))
          go_ret
          exact ⟨by rw [HV.out]; rfl, HBB.out⟩
         ·have d2 : decide (x <= 57) = false := decide_eq_false q2
          have hnd : ¬ (48 <= x /\ x <= 57) := fun h => q2 h.2
          have HV : Hid ((!b) = true ↔ x ∈ Pr.gaps) := Lib.hid (by have h := HBx.out; cases b <;> simp [hnd] at h ⊢ <;> exact h)
          clear hnd HBx
          have hc2 : (w1.alloc (.cells #[.int .i64 9, .int .i64 10, .int .i64 12, .int .i64 13, .int .i64 32, .int .i64 34, .int .i64 39, .int .i64 40, .int .i64 41, .int .i64 91, .int .i64 93, .int .i64 123, .int .i64 125, .int .i64 58, .int .i64 59, .int .i64 44] 3)).cell? ⟨bb, off, none⟩ = some (.int .i64 x) := (((Below.refl w1.heap.size w1).alloc (Nat.le_refl _) _).cell (p := ⟨bb, off, none⟩) hbb).trans hc
          have CI2 : Hid (Calls Tryz.prog 147 #[.slice (some ⟨w1.heap.size, 0, none⟩) 16 16, .int .i64 x] (w1.alloc (.cells #[.int .i64 9, .int .i64 10, .int .i64 12, .int .i64 13, .int .i64 32, .int .i64 34, .int .i64 39, .int .i64 40, .int .i64 41, .int .i64 91, .int .i64 93, .int .i64 123, .int .i64 125, .int .i64 58, .int .i64 59, .int .i64 44] 3)) (fun e w' => e = .returned (.bool (!b)) /\ (w1.alloc (.cells #[.int .i64 9, .int .i64 10, .int .i64 12, .int .i64 13, .int .i64 32, .int .i64 34, .int .i64 39, .int .i64 40, .int .i64 41, .int .i64 91, .int .i64 93, .int .i64 123, .int .i64 125, .int .i64 58, .int .i64 59, .int .i64 44] 3)) = w')) := Lib.hid (in_any Pr.gaps x _ 16 _ _ (lit_bs w1 Pr.gaps 3) (by decide) (!b) HV.out)
          have HB3 : Hid (Below w1.heap.size w1 (w1.alloc (.cells #[.int .i64 9, .int .i64 10, .int .i64 12, .int .i64 13, .int .i64 32, .int .i64 34, .int .i64 39, .int .i64 40, .int .i64 41, .int .i64 91, .int .i64 93, .int .i64 123, .int .i64 125, .int .i64 58, .int .i64 59, .int .i64 44] 3))) := Lib.hid ((Below.refl w1.heap.size w1).alloc (Nat.le_refl _) _)
          have hbn : (!(!b)) = b := Bool.not_not b
          go_wp2_with (first | (go_at_call 147; ((with_reducible refine (CI2.out).mono ?_); rintro e w2 ⟨rfl, rfl⟩)) | (go_at_call 149; ((with_reducible refine (CG.out _).mono ?_); rintro e w4 ⟨rfl, rfl⟩)))
          go_ret
          exact ⟨by simp, below_next HBB.out HB3.out⟩
        ·have d1 : decide (48 <= x) = false := decide_eq_false q1
         have hnd : ¬ (48 <= x /\ x <= 57) := fun h => q1 h.1
         have HV : Hid ((!b) = true ↔ x ∈ Pr.gaps) := Lib.hid (by have h := HBx.out; cases b <;> simp [hnd] at h ⊢ <;> exact h)
         clear hnd HBx
         have hc2 : (w1.alloc (.cells #[.int .i64 9, .int .i64 10, .int .i64 12, .int .i64 13, .int .i64 32, .int .i64 34, .int .i64 39, .int .i64 40, .int .i64 41, .int .i64 91, .int .i64 93, .int .i64 123, .int .i64 125, .int .i64 58, .int .i64 59, .int .i64 44] 3)).cell? ⟨bb, off, none⟩ = some (.int .i64 x) := (((Below.refl w1.heap.size w1).alloc (Nat.le_refl _) _).cell (p := ⟨bb, off, none⟩) hbb).trans hc
         have CI2 : Hid (Calls Tryz.prog 147 #[.slice (some ⟨w1.heap.size, 0, none⟩) 16 16, .int .i64 x] (w1.alloc (.cells #[.int .i64 9, .int .i64 10, .int .i64 12, .int .i64 13, .int .i64 32, .int .i64 34, .int .i64 39, .int .i64 40, .int .i64 41, .int .i64 91, .int .i64 93, .int .i64 123, .int .i64 125, .int .i64 58, .int .i64 59, .int .i64 44] 3)) (fun e w' => e = .returned (.bool (!b)) /\ (w1.alloc (.cells #[.int .i64 9, .int .i64 10, .int .i64 12, .int .i64 13, .int .i64 32, .int .i64 34, .int .i64 39, .int .i64 40, .int .i64 41, .int .i64 91, .int .i64 93, .int .i64 123, .int .i64 125, .int .i64 58, .int .i64 59, .int .i64 44] 3)) = w')) := Lib.hid (in_any Pr.gaps x _ 16 _ _ (lit_bs w1 Pr.gaps 3) (by decide) (!b) HV.out)
         have HB3 : Hid (Below w1.heap.size w1 (w1.alloc (.cells #[.int .i64 9, .int .i64 10, .int .i64 12, .int .i64 13, .int .i64 32, .int .i64 34, .int .i64 39, .int .i64 40, .int .i64 41, .int .i64 91, .int .i64 93, .int .i64 123, .int .i64 125, .int .i64 58, .int .i64 59, .int .i64 44] 3))) := Lib.hid ((Below.refl w1.heap.size w1).alloc (Nat.le_refl _) _)
         have hbn : (!(!b)) = b := Bool.not_not b
         go_wp2_with (first | (go_at_call 147; ((with_reducible refine (CI2.out).mono ?_); rintro e w2 ⟨rfl, rfl⟩)) | (go_at_call 149; ((with_reducible refine (CG.out _).mono ?_); rintro e w4 ⟨rfl, rfl⟩)))
         go_ret
         exact ⟨by simp, below_next HBB.out HB3.out⟩
       ·rw [hbg] at CG HBx
        have HV : Hid (b = false) := Lib.hid (Pr.b_false HBx.out (fun h => by cases h.1))
        clear hbg
        clear HBx
        go_wp2_with (first | (go_at_call 149; ((with_reducible refine (CG.out _).mono ?_); rintro e w4 ⟨rfl, rfl⟩)))
        go_ret
        exact ⟨by rw [HV.out]; rfl, HBB.out⟩
      ·have el : ((cs.length : Int) == 1) = false := Ru.eq_f (by omega)
       have HV : Hid (b = false) := Lib.hid (Pr.b_false HBk.out (Pr.kd11n hl))
       clear HBk
       go_wp2_with (fail)
       go_ret
       exact ⟨by rw [HV.out]; rfl, HBB.out⟩
     ·have en : (n != 0) = true := Ru.ne_t hn
      have HV : Hid (b = false) := Lib.hid (Pr.b_false HBk.out (Pr.kd_nn (by omega) hn))
      clear HBk hn
      go_wp2_with (fail)
      go_ret
      exact ⟨by rw [HV.out]; rfl, HBB.out⟩
    ·skip
     by_cases hn : n = 0
     ·have en : (n != 0) = false := Ru.ne_f hn
      have HN' := Lib.hid hn
      clear hn
      by_cases hl : cs.length = 1
      ·obtain ⟨x, rfl⟩ := List.length_eq_one_iff.1 hl
       obtain ⟨bb, off, rfl, hbb, hp⟩ := HS.out (by simp)
       have hc := hp 0 (by simp)
       rw [Nat.add_zero, show Ru.g [x] 0 = x from rfl] at hc
       clear hp hl hcl
       have HBx : Hid (b = true ↔ x ∈ [40, 91, 123]) := Lib.hid (HBk.out.trans (Pr.kd12'.trans ⟨fun h => h.1, fun h => ⟨h, HN'.out⟩⟩))
       have hc2 : (w1.alloc (.cells #[.int .i64 40, .int .i64 91, .int .i64 123] 3)).cell? ⟨bb, off, none⟩ = some (.int .i64 x) := (((Below.refl w1.heap.size w1).alloc (Nat.le_refl _) _).cell (p := ⟨bb, off, none⟩) hbb).trans hc
       have CI2 : Hid (Calls Tryz.prog 147 #[.slice (some ⟨w1.heap.size, 0, none⟩) 3 3, .int .i64 x] (w1.alloc (.cells #[.int .i64 40, .int .i64 91, .int .i64 123] 3)) (fun e w' => e = .returned (.bool b) /\ (w1.alloc (.cells #[.int .i64 40, .int .i64 91, .int .i64 123] 3)) = w')) := Lib.hid (in_any [40, 91, 123] x _ 3 _ _ (lit_bs w1 [40, 91, 123] 3) (by decide) b HBx.out)
       have HB3 : Hid (Below w1.heap.size w1 (w1.alloc (.cells #[.int .i64 40, .int .i64 91, .int .i64 123] 3))) := Lib.hid ((Below.refl w1.heap.size w1).alloc (Nat.le_refl _) _)
       clear HBk HBx HS
       go_wp2_with (first | (go_at_call 147; ((with_reducible refine (CI2.out).mono ?_); rintro e w2 ⟨rfl, rfl⟩)))
       go_ret
       exact ⟨rfl, below_next HBB.out HB3.out⟩
      ·have el : ((cs.length : Int) == 1) = false := Ru.eq_f (by omega)
       have HV : Hid (b = false) := Lib.hid (Pr.b_false HBk.out (Pr.kd12n hl))
       clear HBk
       go_wp2_with (fail)
       go_ret
       exact ⟨by rw [HV.out]; rfl, HBB.out⟩
     ·have en : (n != 0) = true := Ru.ne_t hn
      have HV : Hid (b = false) := Lib.hid (Pr.b_false HBk.out (Pr.kd_nn (by omega) hn))
      clear HBk hn
      go_wp2_with (fail)
      go_ret
      exact ⟨by rw [HV.out]; rfl, HBB.out⟩
    ·skip
     by_cases hn : n = 0
     ·have en : (n != 0) = false := Ru.ne_f hn
      have HN' := Lib.hid hn
      clear hn
      by_cases hl : cs.length = 1
      ·obtain ⟨x, rfl⟩ := List.length_eq_one_iff.1 hl
       obtain ⟨bb, off, rfl, hbb, hp⟩ := HS.out (by simp)
       have hc := hp 0 (by simp)
       rw [Nat.add_zero, show Ru.g [x] 0 = x from rfl] at hc
       clear hp hl hcl
       have HBx : Hid (b = true ↔ x ∈ [41, 93, 125]) := Lib.hid (HBk.out.trans (Pr.kd13'.trans ⟨fun h => h.1, fun h => ⟨h, HN'.out⟩⟩))
       have hc2 : (w1.alloc (.cells #[.int .i64 41, .int .i64 93, .int .i64 125] 3)).cell? ⟨bb, off, none⟩ = some (.int .i64 x) := (((Below.refl w1.heap.size w1).alloc (Nat.le_refl _) _).cell (p := ⟨bb, off, none⟩) hbb).trans hc
       have CI2 : Hid (Calls Tryz.prog 147 #[.slice (some ⟨w1.heap.size, 0, none⟩) 3 3, .int .i64 x] (w1.alloc (.cells #[.int .i64 41, .int .i64 93, .int .i64 125] 3)) (fun e w' => e = .returned (.bool b) /\ (w1.alloc (.cells #[.int .i64 41, .int .i64 93, .int .i64 125] 3)) = w')) := Lib.hid (in_any [41, 93, 125] x _ 3 _ _ (lit_bs w1 [41, 93, 125] 3) (by decide) b HBx.out)
       have HB3 : Hid (Below w1.heap.size w1 (w1.alloc (.cells #[.int .i64 41, .int .i64 93, .int .i64 125] 3))) := Lib.hid ((Below.refl w1.heap.size w1).alloc (Nat.le_refl _) _)
       clear HBk HBx HS
       go_wp2_with (first | (go_at_call 147; ((with_reducible refine (CI2.out).mono ?_); rintro e w2 ⟨rfl, rfl⟩)))
       go_ret
       exact ⟨rfl, below_next HBB.out HB3.out⟩
      ·have el : ((cs.length : Int) == 1) = false := Ru.eq_f (by omega)
       have HV : Hid (b = false) := Lib.hid (Pr.b_false HBk.out (Pr.kd13n hl))
       clear HBk
       go_wp2_with (fail)
       go_ret
       exact ⟨by rw [HV.out]; rfl, HBB.out⟩
     ·have en : (n != 0) = true := Ru.ne_t hn
      have HV : Hid (b = false) := Lib.hid (Pr.b_false HBk.out (Pr.kd_nn (by omega) hn))
      clear HBk hn
      go_wp2_with (fail)
      go_ret
      exact ⟨by rw [HV.out]; rfl, HBB.out⟩
    ·skip
     by_cases hn : n = 0
     ·have en : (n != 0) = false := Ru.ne_f hn
      have HN' := Lib.hid hn
      clear hn
      by_cases hl : cs.length = 0
      ·have el : ((cs.length : Int) == 0) = true := Ru.eq_t (by omega)
       have HV : Hid (b = true) := Lib.hid (HBk.out.2 (Pr.kd14.2 ⟨Pr.eq_len.2 hl, HN'.out⟩))
       clear HBk
       go_wp2_with (fail)
       go_ret
       exact ⟨by rw [HV.out]; rfl, HBB.out⟩
      ·have el : ((cs.length : Int) == 0) = false := Ru.eq_f (by omega)
       have HV : Hid (b = false) := Lib.hid (Pr.b_false HBk.out (fun h => hl (Pr.eq_len.1 (Pr.kd14.1 h).1)))
       clear HBk
       go_wp2_with (fail)
       go_ret
       exact ⟨by rw [HV.out]; rfl, HBB.out⟩
     ·have en : (n != 0) = true := Ru.ne_t hn
      have HV : Hid (b = false) := Lib.hid (Pr.b_false HBk.out (Pr.kd_nn (by omega) hn))
      clear HBk hn
      go_wp2_with (fail)
      go_ret
      exact ⟨by rw [HV.out]; rfl, HBB.out⟩
    ·skip
     by_cases hn : n = 0
     ·have en : (n != 0) = false := Ru.ne_f hn
      have HN' := Lib.hid hn
      clear hn
      by_cases hl : cs.length = 0
      ·have el : ((cs.length : Int) == 0) = true := Ru.eq_t (by omega)
       have HV : Hid (b = true) := Lib.hid (HBk.out.2 (Pr.kd15.2 ⟨Pr.eq_len.2 hl, HN'.out⟩))
       clear HBk
       go_wp2_with (fail)
       go_ret
       exact ⟨by rw [HV.out]; rfl, HBB.out⟩
      ·have el : ((cs.length : Int) == 0) = false := Ru.eq_f (by omega)
       have HV : Hid (b = false) := Lib.hid (Pr.b_false HBk.out (fun h => hl (Pr.eq_len.1 (Pr.kd15.1 h).1)))
       clear HBk
       go_wp2_with (fail)
       go_ret
       exact ⟨by rw [HV.out]; rfl, HBB.out⟩
     ·have en : (n != 0) = true := Ru.ne_t hn
      have HV : Hid (b = false) := Lib.hid (Pr.b_false HBk.out (Pr.kd_nn (by omega) hn))
      clear HBk hn
      go_wp2_with (fail)
      go_ret
      exact ⟨by rw [HV.out]; rfl, HBB.out⟩
    ·skip
     by_cases hn : n = 0
     ·have en : (n != 0) = false := Ru.ne_f hn
      have HN' := Lib.hid hn
      clear hn
      by_cases hl : cs.length = 0
      ·have el : ((cs.length : Int) == 0) = true := Ru.eq_t (by omega)
       have HV : Hid (b = true) := Lib.hid (HBk.out.2 (Pr.kd16.2 ⟨Pr.eq_len.2 hl, HN'.out⟩))
       clear HBk
       go_wp2_with (fail)
       go_ret
       exact ⟨by rw [HV.out]; rfl, HBB.out⟩
      ·have el : ((cs.length : Int) == 0) = false := Ru.eq_f (by omega)
       have HV : Hid (b = false) := Lib.hid (Pr.b_false HBk.out (fun h => hl (Pr.eq_len.1 (Pr.kd16.1 h).1)))
       clear HBk
       go_wp2_with (fail)
       go_ret
       exact ⟨by rw [HV.out]; rfl, HBB.out⟩
     ·have en : (n != 0) = true := Ru.ne_t hn
      have HV : Hid (b = false) := Lib.hid (Pr.b_false HBk.out (Pr.kd_nn (by omega) hn))
      clear HBk hn
      go_wp2_with (fail)
      go_ret
      exact ⟨by rw [HV.out]; rfl, HBB.out⟩
   ·have HV : Hid (b = false) := Lib.hid (Pr.b_false HBk.out (Pr.kd_out (by omega)))
    clear HBk
    by_cases hlo : k < 1
    ·skip
     have d8 : decide (k < 8) = true := decide_eq_true (by omega)
     have d10 : decide (10 < k) = false := decide_eq_false (by omega)
     have e2 : decide (2 <= k) = false := decide_eq_false (by omega)
     have e5 : decide (k <= 5) = true := decide_eq_true (by omega)
     have e1 : decide (1 <= k) = false := decide_eq_false (by omega)
     have e16 : decide (k <= 16) = true := decide_eq_true (by omega)
     have f6 : (k == 6) = false := Ru.eq_f (by omega)
     have f7 : (k == 7) = false := Ru.eq_f (by omega)
     have f10 : (k == 10) = false := Ru.eq_f (by omega)
     have f11 : (k == 11) = false := Ru.eq_f (by omega)
     have f12 : (k == 12) = false := Ru.eq_f (by omega)
     have f13 : (k == 13) = false := Ru.eq_f (by omega)
     by_cases hn : n = 0
     ·have en : (n != 0) = false := Ru.ne_f hn
      clear hn
      go_wp2_with (fail)
      go_ret
      exact ⟨by rw [HV.out]; rfl, HBB.out⟩
     ·have en : (n != 0) = true := Ru.ne_t hn
      clear hn
      go_wp2_with (fail)
      go_ret
      exact ⟨by rw [HV.out]; rfl, HBB.out⟩
    ·skip
     have d8 : decide (k < 8) = false := decide_eq_false (by omega)
     have d10 : decide (10 < k) = true := decide_eq_true (by omega)
     have e2 : decide (2 <= k) = true := decide_eq_true (by omega)
     have e5 : decide (k <= 5) = false := decide_eq_false (by omega)
     have e1 : decide (1 <= k) = true := decide_eq_true (by omega)
     have e16 : decide (k <= 16) = false := decide_eq_false (by omega)
     have f6 : (k == 6) = false := Ru.eq_f (by omega)
     have f7 : (k == 7) = false := Ru.eq_f (by omega)
     have f10 : (k == 10) = false := Ru.eq_f (by omega)
     have f11 : (k == 11) = false := Ru.eq_f (by omega)
     have f12 : (k == 12) = false := Ru.eq_f (by omega)
     have f13 : (k == 13) = false := Ru.eq_f (by omega)
     by_cases hn : n = 0
     ·have en : (n != 0) = false := Ru.ne_f hn
      clear hn
      go_wp2_with (fail)
      go_ret
      exact ⟨by rw [HV.out]; rfl, HBB.out⟩
     ·have en : (n != 0) = true := Ru.ne_t hn
      clear hn
      go_wp2_with (fail)
      go_ret
      exact ⟨by rw [HV.out]; rfl, HBB.out⟩
 ·have HN : Hid (b = false) := Lib.hid (Pr.b_false hb (Pr.oneU_not hx))
  have C := Lib.hid (chars_no hx hm W0)
  clear hb hb0 k0 hx q0 q2
  go_enter Tryz.func82, Tryz.ntmps82
  go_upto_region 1 with fail
  rw [<- hW]
  clear hW
  go_wp2_with (first | (go_at_call 146; ((with_reducible refine (C.out).mono ?_); rintro e w1 ⟨rfl, b1⟩; have HB1 := Lib.hid b1; clear b1)))
  go_ret
  exact ⟨by rw [HN.out]; rfl, below_next HB0.out HB1.out⟩
end Go.Proofs.YtkcabpjfgbghjaaGreatDoor
