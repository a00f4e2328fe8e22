/-
  The walk of the reference's One.
-/
import Derived.Test.YtllmjggejbdpcaaGreatDoorGae
import Derived.Test.YtllmjggejbdpcaaGreatDoorGak
import Derived.BigQuiet
import Derived.Deep.QuietTactic
import Derived.Deep.RegionWith
import Derived.RegionTactic
import Derived.Deep.RegionHeld3
import Derived.Test.YtllmjggejbdpcaaGreatDoorGag
import Derived.Test.YtllmjggejbdpcaaGreatDoorGah
import Derived.Test.YtllmjggejbdpcaaGreatDoorGaf
import Derived.Outline
set_option maxHeartbeats 16000000
set_option maxRecDepth 100000
namespace Go.Proofs.YtllmjggejbdpcaaGreatDoor
open Go.RowKit
theorem chars_yes {t : ByteArray} {cs : List Int} (h : Pr.Txt t cs) (hm : t.size <= 90000) (w : World) :
 Calls Tryz.prog 145 #[.string t] w fun e w' => ∃ (A : Option Addr) (cap : Nat), e = .returned (.tuple #[.slice A cs.length cap, .bool true]) /\ cs.length <= cap /\ Bs w' w'.heap.size .i64 A cs /\ Below w.heap.size w w' := by
 refine (chars_any t hm w).mono ?_
 rintro e w' (⟨cs', A, cap, hx, rfl, hc, hb, hw⟩ | ⟨hn, _⟩)
 ·obtain rfl := Pr.wr_inj hx.2 h.2 (hx.1.symm.trans h.1)
  exact ⟨A, cap, rfl, hc, hb, hw⟩
 ·exact absurd ⟨cs, h⟩ hn
theorem chars_no {t : ByteArray} (h : ¬ ∃ cs, Pr.Txt t cs) (hm : t.size <= 90000) (w : World) :
 Calls Tryz.prog 145 #[.string t] w fun e w' => e = .returned (.tuple #[.slice none 0 0, .bool false]) /\ Below w.heap.size w w' := by
 refine (chars_any t hm w).mono ?_
 rintro e w' (⟨cs', A, cap, hx, _⟩ | ⟨_, rfl, hw⟩)
 ·exact absurd ⟨cs', hx⟩ h
 ·exact ⟨rfl, hw⟩
namespace Pr
open Ru Tk
theorem oneU_txt {k n : Int} {t : ByteArray} {cs : List Int} (h : Txt t cs) : OneU (k, t, n) ↔ ((0 : Int) ∉ cs /\ Kd k cs n) := by
 rw [oneU_iff]
 constructor
 ·rintro ⟨cs', hx, ho, hk⟩
  obtain rfl := wr_inj hx.2 h.2 (hx.1.symm.trans h.1)
  exact ⟨fun h0 => (ho 0 h0).2 rfl, hk⟩
 ·rintro ⟨h0, hk⟩
  exact ⟨cs, h, fun c hc => ⟨h.2 c hc, fun e => h0 (e ▸ hc)⟩, hk⟩
theorem oneU_not {k n : Int} {t : ByteArray} (h : ¬ ∃ cs, Txt t cs) : ¬ OneU (k, t, n) := fun ho => by
 obtain ⟨cs, hx, _⟩ := (oneU_iff k n t).1 ho
 exact h ⟨cs, hx⟩
theorem kd1 {cs : List Int} {n : Int} : Kd 1 cs n ↔ cs = [] /\ n = 0 := by simp [Kd]
theorem kd2 {cs : List Int} {n : Int} : Kd 2 cs n ↔ cs ≠ [] /\ n = 0 := by simp [Kd]
theorem kd3 {cs : List Int} {n : Int} : Kd 3 cs n ↔ cs ≠ [] /\ n = 0 := by simp [Kd]
theorem kd4 {cs : List Int} {n : Int} : Kd 4 cs n ↔ cs ≠ [] /\ n = 0 := by simp [Kd]
theorem kd5 {cs : List Int} {n : Int} : Kd 5 cs n ↔ cs ≠ [] /\ n = 0 := by simp [Kd]
theorem kd6 {cs : List Int} {n : Int} : Kd 6 cs n ↔ n = 0 := by simp [Kd]
theorem kd7 {cs : List Int} {n : Int} : Kd 7 cs n ↔ n = 0 := by simp [Kd]
theorem kd8 {cs : List Int} {n : Int} : Kd 8 cs n ↔ cs = [] /\ n = Fx.stop n := by simp [Kd]
theorem kd9 {cs : List Int} {n : Int} : Kd 9 cs n ↔ cs = [] /\ n = Fx.stop n := by simp [Kd]
theorem kd10 {cs : List Int} {n : Int} : Kd 10 cs n ↔ cs ≠ [] /\ n = Fx.stop n := by simp [Kd]
theorem kd11 {cs : List Int} {n : Int} : Kd 11 cs n ↔ (∃ c, cs = [c] /\ Del c) /\ n = 0 := by simp [Kd]
theorem kd12 {cs : List Int} {n : Int} : Kd 12 cs n ↔ (cs = [40] ∨ cs = [91] ∨ cs = [123]) /\ n = 0 := by simp [Kd]
theorem kd13 {cs : List Int} {n : Int} : Kd 13 cs n ↔ (cs = [41] ∨ cs = [93] ∨ cs = [125]) /\ n = 0 := by simp [Kd]
theorem kd14 {cs : List Int} {n : Int} : Kd 14 cs n ↔ cs = [] /\ n = 0 := by simp [Kd]
theorem kd15 {cs : List Int} {n : Int} : Kd 15 cs n ↔ cs = [] /\ n = 0 := by simp [Kd]
theorem kd16 {cs : List Int} {n : Int} : Kd 16 cs n ↔ cs = [] /\ n = 0 := by simp [Kd]
theorem kd_out {k : Int} {cs : List Int} {n : Int} (h : k < 1 ∨ 16 < k) : ¬ Kd k cs n := fun hk => by
 unfold Kd at hk
 omega
theorem ne_len {cs : List Int} : cs ≠ [] ↔ 0 < cs.length := by cases cs <;> simp
theorem eq_len {cs : List Int} : cs = [] ↔ cs.length = 0 := by cases cs <;> simp
def gaps : List Int := [9, 10, 12, 13, 32, 34, 39, 40, 41, 91, 93, 123, 125, 58, 59, 44]
theorem del_gaps {c : Int} : Del c ↔ (begB c = false /\ ¬ (48 <= c /\ c <= 57) /\ c ∉ gaps) := by
 unfold Del gaps
 simp
theorem kd11' {x : Int} {n : Int} : Kd 11 [x] n ↔ Del x /\ n = 0 := by
 rw [kd11]
 constructor
 ·rintro ⟨⟨c, e, h⟩, hn⟩
  obtain rfl : x = c := by simpa using e
  exact ⟨h, hn⟩
 ·rintro ⟨h, hn⟩; exact ⟨⟨x, rfl, h⟩, hn⟩
theorem kd12' {x : Int} {n : Int} : Kd 12 [x] n ↔ x ∈ [40, 91, 123] /\ n = 0 := by
 rw [kd12]; simp
theorem kd13' {x : Int} {n : Int} : Kd 13 [x] n ↔ x ∈ [41, 93, 125] /\ n = 0 := by
 rw [kd13]; simp
theorem kd11n {cs : List Int} {n : Int} (h : cs.length ≠ 1) : ¬ Kd 11 cs n := fun hk => by
 rw [kd11] at hk
 obtain ⟨⟨c, rfl, _⟩, _⟩ := hk
 exact h rfl
theorem kd12n {cs : List Int} {n : Int} (h : cs.length ≠ 1) : ¬ Kd 12 cs n := fun hk => by
 rw [kd12] at hk
 rcases hk.1 with rfl | rfl | rfl <;> exact h rfl
theorem kd13n {cs : List Int} {n : Int} (h : cs.length ≠ 1) : ¬ Kd 13 cs n := fun hk => by
 rw [kd13] at hk
 rcases hk.1 with rfl | rfl | rfl <;> exact h rfl
theorem kd_nn {k : Int} {cs : List Int} {n : Int} (h : k < 8 ∨ 10 < k) (hn : n ≠ 0) : ¬ Kd k cs n := fun hk => by
 unfold Kd at hk
 omega
theorem kd_ns {k : Int} {cs : List Int} {n : Int} (h : 8 <= k) (h2 : k <= 10) (hn : n ≠ Fx.stop n) : ¬ Kd k cs n := fun hk => by
 unfold Kd at hk
 generalize Fx.stop n = m at *
 omega
theorem b_false {b : Bool} {P : Prop} (h : b = true ↔ P) (hn : ¬ P) : b = false := by
 cases b with
 | false => rfl
 | true => exact absurd (h.1 rfl) hn
end Pr
theorem rone_any (k n : Int) (t : ByteArray) (hm : t.size <= 90000) (b : Bool) (hb : b = true ↔ Pr.OneU (k, t, n)) (w : World) :
 Calls Tryz.prog 81 #[tokV k t n] w (Bo b w) := by
 obtain ⟨W0, hW⟩ : ∃ W0, W0 = w.alloc (.cells #[.int .i64 k, .string t, .int .i64 n] 70) := ⟨_, rfl⟩
 have hb0 : Below w.heap.size w W0 := by rw [hW]; exact (Below.refl _ _).alloc (Nat.le_refl _) _
 have k0 : W0.heap[w.heap.size]? = some (.cells #[.int .i64 k, .string t, .int .i64 n] 70 (0, 0)) := by rw [hW]; exact heap_alloc_new w _
 obtain ⟨q0, q1, q2⟩ := tok3_cells k0
 have HK0 := Lib.hid k0
 have HB0 := Lib.hid hb0
 unfold tokV
 by_cases hx : ∃ cs, Pr.Txt t cs
 ·obtain ⟨cs, hx⟩ := hx
  have C := Lib.hid (chars_yes hx hm W0)
  have HB := Lib.hid (hb.trans (Pr.oneU_txt hx))
  have hcl : cs.length <= 90000 := by
   have := Pr.wr_len_ge cs
   rw [<- Pr.txt_size hx] at this
   omega
  clear hb hb0 k0 hx
  by_cases hz : (0 : Int) ∈ cs
  ·have HN : Hid (b = false) := Lib.hid (Pr.b_false HB.out (fun h => h.1 hz))
   have HI : Hid (∀ (A : Option Addr) (cap B : Nat) (W : World), Bs W B .i64 A cs -> Calls Tryz.prog 146 #[.slice A cs.length cap, .int .i64 0] W fun e w' => e = .returned (.bool true) /\ W = w') := Lib.hid fun A cap B W h => in_any cs 0 A cap B W h (by omega) true (by simp [hz])
   clear HB hz q0 q2
   go_enter Tryz.func81, Tryz.ntmps81
   go_upto_region 1 with fail
   rw [<- hW]
   clear hW
   go_wp2_with (first | (go_at_call 145; ((with_reducible refine (C.out).mono ?_); rintro e w1 ⟨A, cap, rfl, hc1, B1, b1⟩; have CI := Lib.hid (HI.out A cap _ _ B1); have HB1 := Lib.hid b1; clear B1 b1 C)) | (go_at_call 146; ((with_reducible refine (CI.out).mono ?_); rintro e w2 ⟨rfl, rfl⟩)))
   go_ret
   exact ⟨by rw [HN.out]; rfl, below_next HB0.out HB1.out⟩
  ·have HBk : Hid (b = true ↔ Pr.Kd k cs n) := Lib.hid (HB.out.trans ⟨fun h => h.2, fun h => ⟨hz, h⟩⟩)
   have HI : Hid (∀ (A : Option Addr) (cap B : Nat) (W : World), Bs W B .i64 A cs -> Calls Tryz.prog 146 #[.slice A cs.length cap, .int .i64 0] W fun e w' => e = .returned (.bool false) /\ W = w') := Lib.hid fun A cap B W h => in_any cs 0 A cap B W h (by omega) false (by simp [hz])
   clear HB hz q0 q2
   go_enter Tryz.func81, Tryz.ntmps81
   go_upto_region 1 with fail
   rw [<- hW]
   clear hW
   go_upto_region 4 with (first | (go_at_call 145; ((with_reducible refine (C.out).mono ?_); rintro e w1 ⟨A, cap, rfl, hc1, B1, b1⟩; have CI := Lib.hid (HI.out A cap _ _ B1); have HB1 := Lib.hid b1; have HS := Lib.hid B1; have HK1 := Lib.hid (below_block b1 HK0.out); clear B1 b1 C)) | (go_at_call 146; ((with_reducible refine (CI.out).mono ?_); rintro e w2 ⟨rfl, rfl⟩)))
   obtain ⟨q0, q1', q2⟩ := tok3_cells HK1.out
   clear CI HI q1 q1' HK0 HK1
   have HBB := Lib.hid (below_next HB0.out HB1.out)
   clear HB0 HB1 hc1
   by_cases hin : 1 <= k /\ k <= 16
   ·have hk : k = 1 ∨ k = 2 ∨ k = 3 ∨ k = 4 ∨ k = 5 ∨ k = 6 ∨ k = 7 ∨ k = 8 ∨ k = 9 ∨ k = 10 ∨ k = 11 ∨ k = 12 ∨ k = 13 ∨ k = 14 ∨ k = 15 ∨ k = 16 := by omega
    clear hin
    rcases hk with rfl | rfl | rfl | rfl | rfl | rfl | rfl | rfl | rfl | rfl | rfl | rfl | rfl | rfl | rfl | rfl
    ·skip
     by_cases hn : n = 0
     ·have en : (n != 0) = false := Ru.ne_f hn
      have HN' := Lib.hid hn
      clear hn
      by_cases hl : cs.length = 0
      ·have el : ((cs.length : Int) == 0) = true := Ru.eq_t (by omega)
       have HV : Hid (b = true) := Lib.hid (HBk.out.2 (Pr.kd1.2 ⟨Pr.eq_len.2 hl, HN'.out⟩))
       clear HBk
       go_wp2_with (fail)
       go_ret
       exact ⟨by rw [HV.out]; rfl, HBB.out⟩
      ·have el : ((cs.length : Int) == 0) = false := Ru.eq_f (by omega)
       have HV : Hid (b = false) := Lib.hid (Pr.b_false HBk.out (fun h => hl (Pr.eq_len.1 (Pr.kd1.1 h).1)))
       clear HBk
       go_wp2_with (fail)
       go_ret
       exact ⟨by rw [HV.out]; rfl, HBB.out⟩
     ·have en : (n != 0) = true := Ru.ne_t hn
      have HV : Hid (b = false) := Lib.hid (Pr.b_false HBk.out (Pr.kd_nn (by omega) hn))
      clear HBk hn
      go_wp2_with (fail)
      go_ret
      exact ⟨by rw [HV.out]; rfl, HBB.out⟩
    ·skip
     by_cases hn : n = 0
     ·have en : (n != 0) = false := Ru.ne_f hn
      have HN' := Lib.hid hn
      clear hn
      by_cases hl : 0 < cs.length
      ·have el : decide (0 < cs.length) = true := decide_eq_true hl
       have HV : Hid (b = true) := Lib.hid (HBk.out.2 (Pr.kd2.2 ⟨Pr.ne_len.2 hl, HN'.out⟩))
       clear HBk
       go_wp2_with (fail)
       go_ret
       exact ⟨by rw [HV.out]; rfl, HBB.out⟩
      ·have el : decide (0 < cs.length) = false := decide_eq_false hl
       have HV : Hid (b = false) := Lib.hid (Pr.b_false HBk.out (fun h => hl (Pr.ne_len.1 (Pr.kd2.1 h).1)))
       clear HBk
       go_wp2_with (fail)
       go_ret
       exact ⟨by rw [HV.out]; rfl, HBB.out⟩
     ·have en : (n != 0) = true := Ru.ne_t hn
      have HV : Hid (b = false) := Lib.hid (Pr.b_false HBk.out (Pr.kd_nn (by omega) hn))
      clear HBk hn
      go_wp2_with (fail)
      go_ret
      exact ⟨by rw [HV.out]; rfl, HBB.out⟩
    ·skip
     by_cases hn : n = 0
     ·have en : (n != 0) = false := Ru.ne_f hn
      have HN' := Lib.hid hn
      clear hn
      by_cases hl : 0 < cs.length
      ·have el : decide (0 < cs.length) = true := decide_eq_true hl
       have HV : Hid (b = true) := Lib.hid (HBk.out.2 (Pr.kd3.2 ⟨Pr.ne_len.2 hl, HN'.out⟩))
       clear HBk
       go_wp2_with (fail)
       go_ret
       exact ⟨by rw [HV.out]; rfl, HBB.out⟩
      ·have el : decide (0 < cs.length) = false := decide_eq_false hl
       have HV : Hid (b = false) := Lib.hid (Pr.b_false HBk.out (fun h => hl (Pr.ne_len.1 (Pr.kd3.1 h).1)))
       clear HBk
       go_wp2_with (fail)
       go_ret
       exact ⟨by rw [HV.out]; rfl, HBB.out⟩
     ·have en : (n != 0) = true := Ru.ne_t hn
      have HV : Hid (b = false) := Lib.hid (Pr.b_false HBk.out (Pr.kd_nn (by omega) hn))
      clear HBk hn
      go_wp2_with (fail)
      go_ret
      exact ⟨by rw [HV.out]; rfl, HBB.out⟩
    ·skip
     by_cases hn : n = 0
     ·have en : (n != 0) = false := Ru.ne_f hn
      have HN' := Lib.hid hn
      clear hn
      by_cases hl : 0 < cs.length
      ·have el : decide (0 < cs.length) = true := decide_eq_true hl
       have HV : Hid (b = true) := Lib.hid (HBk.out.2 (Pr.kd4.2 ⟨Pr.ne_len.2 hl, HN'.out⟩))
       clear HBk
       go_wp2_with (fail)
       go_ret
       exact ⟨by rw [HV.out]; rfl, HBB.out⟩
      ·have el : decide (0 < cs.length) = false := decide_eq_false hl
       have HV : Hid (b = false) := Lib.hid (Pr.b_false HBk.out (fun h => hl (Pr.ne_len.1 (Pr.kd4.1 h).1)))
       clear HBk
       go_wp2_with (fail)
       go_ret
       exact ⟨by rw [HV.out]; rfl, HBB.out⟩
     ·have en : (n != 0) = true := Ru.ne_t hn
      have HV : Hid (b = false) := Lib.hid (Pr.b_false HBk.out (Pr.kd_nn (by omega) hn))
      clear HBk hn
      go_wp2_with (fail)
      go_ret
      exact ⟨by rw [HV.out]; rfl, HBB.out⟩
    ·skip
     by_cases hn : n = 0
     ·have en : (n != 0) = false := Ru.ne_f hn
      have HN' := Lib.hid hn
      clear hn
      by_cases hl : 0 < cs.length
      ·have el : decide (0 < cs.length) = true := decide_eq_true hl
       have HV : Hid (b = true) := Lib.hid (HBk.out.2 (Pr.kd5.2 ⟨Pr.ne_len.2 hl, HN'.out⟩))
       clear HBk
       go_wp2_with (fail)
       go_ret
       exact ⟨by rw [HV.out]; rfl, HBB.out⟩
      ·have el : decide (0 < cs.length) = false := decide_eq_false hl
       have HV : Hid (b = false) := Lib.hid (Pr.b_false HBk.out (fun h => hl (Pr.ne_len.1 (Pr.kd5.1 h).1)))
       clear HBk
       go_wp2_with (fail)
       go_ret
       exact ⟨by rw [HV.out]; rfl, HBB.out⟩
     ·have en : (n != 0) = true := Ru.ne_t hn
      have HV : Hid (b = false) := Lib.hid (Pr.b_false HBk.out (Pr.kd_nn (by omega) hn))
      clear HBk hn
      go_wp2_with (fail)
      go_ret
      exact ⟨by rw [HV.out]; rfl, HBB.out⟩
    ·skip
     by_cases hn : n = 0
     ·have en : (n != 0) = false := Ru.ne_f hn
      have HN' := Lib.hid hn
      clear hn
      have HV : Hid (b = true) := Lib.hid (HBk.out.2 (Pr.kd6.2 HN'.out))
      clear HBk
      go_wp2_with (fail)
      go_ret
      exact ⟨by rw [HV.out]; rfl, HBB.out⟩
     ·have en : (n != 0) = true := Ru.ne_t hn
      have HV : Hid (b = false) := Lib.hid (Pr.b_false HBk.out (Pr.kd_nn (by omega) hn))
      clear HBk hn
      go_wp2_with (fail)
      go_ret
      exact ⟨by rw [HV.out]; rfl, HBB.out⟩
    ·skip
     by_cases hn : n = 0
     ·have en : (n != 0) = false := Ru.ne_f hn
      have HN' := Lib.hid hn
      clear hn
      have HV : Hid (b = true) := Lib.hid (HBk.out.2 (Pr.kd7.2 HN'.out))
      clear HBk
      go_wp2_with (fail)
      go_ret
      exact ⟨by rw [HV.out]; rfl, HBB.out⟩
     ·have en : (n != 0) = true := Ru.ne_t hn
      have HV : Hid (b = false) := Lib.hid (Pr.b_false HBk.out (Pr.kd_nn (by omega) hn))
      clear HBk hn
      go_wp2_with (fail)
      go_ret
      exact ⟨by rw [HV.out]; rfl, HBB.out⟩
    ·skip
     have CS := Lib.hid (fun W => rstop_any n W)
     by_cases hn : n = Fx.stop n
     ·have en : (n != Fx.stop n) = false := Ru.ne_f hn
      have HN' := Lib.hid hn
      clear hn
      by_cases hl : cs.length = 0
      ·have el : ((cs.length : Int) == 0) = true := Ru.eq_t (by omega)
       have HV : Hid (b = true) := Lib.hid (HBk.out.2 (Pr.kd8.2 ⟨Pr.eq_len.2 hl, HN'.out⟩))
       clear HBk
       go_upto_region 7 with fail
       go_quiet ((go_at_call 147; exact Calls.quiet_of_same ((CS.out _).mono fun _ _ h => ⟨h.1, h.2.symm⟩)))
       go_wp2_with (fail)
       go_ret
       exact ⟨by rw [HV.out]; rfl, below_drewN HBB.out _⟩
      ·have el : ((cs.length : Int) == 0) = false := Ru.eq_f (by omega)
       have HV : Hid (b = false) := Lib.hid (Pr.b_false HBk.out (fun h => hl (Pr.eq_len.1 (Pr.kd8.1 h).1)))
       clear HBk
       go_upto_region 7 with fail
       go_quiet ((go_at_call 147; exact Calls.quiet_of_same ((CS.out _).mono fun _ _ h => ⟨h.1, h.2.symm⟩)))
       go_wp2_with (fail)
       go_ret
       exact ⟨by rw [HV.out]; rfl, below_drewN HBB.out _⟩
     ·have en : (n != Fx.stop n) = true := Ru.ne_t hn
      have HV : Hid (b = false) := Lib.hid (Pr.b_false HBk.out (Pr.kd_ns (by omega) (by omega) hn))
      clear HBk hn
      go_upto_region 7 with fail
      go_quiet ((go_at_call 147; exact Calls.quiet_of_same ((CS.out _).mono fun _ _ h => ⟨h.1, h.2.symm⟩)))
      go_wp2_with (fail)
      go_ret
      exact ⟨by rw [HV.out]; rfl, below_drewN HBB.out _⟩
    ·skip
     have CS := Lib.hid (fun W => rstop_any n W)
     by_cases hn : n = Fx.stop n
     ·have en : (n != Fx.stop n) = false := Ru.ne_f hn
      have HN' := Lib.hid hn
      clear hn
      by_cases hl : cs.length = 0
      ·have el : ((cs.length : Int) == 0) = true := Ru.eq_t (by omega)
       have HV : Hid (b = true) := Lib.hid (HBk.out.2 (Pr.kd9.2 ⟨Pr.eq_len.2 hl, HN'.out⟩))
       clear HBk
       go_upto_region 7 with fail
       go_quiet ((go_at_call 147; exact Calls.quiet_of_same ((CS.out _).mono fun _ _ h => ⟨h.1, h.2.symm⟩)))
       go_wp2_with (fail)
       go_ret
       exact ⟨by rw [HV.out]; rfl, below_drewN HBB.out _⟩
      ·have el : ((cs.length : Int) == 0) = false := Ru.eq_f (by omega)
       have HV : Hid (b = false) := Lib.hid (Pr.b_false HBk.out (fun h => hl (Pr.eq_len.1 (Pr.kd9.1 h).1)))
       clear HBk
       go_upto_region 7 with fail
       go_quiet ((go_at_call 147; exact Calls.quiet_of_same ((CS.out _).mono fun _ _ h => ⟨h.1, h.2.symm⟩)))
       go_wp2_with (fail)
       go_ret
       exact ⟨by rw [HV.out]; rfl, below_drewN HBB.out _⟩
     ·have en : (n != Fx.stop n) = true := Ru.ne_t hn
      have HV : Hid (b = false) := Lib.hid (Pr.b_false HBk.out (Pr.kd_ns (by omega) (by omega) hn))
      clear HBk hn
      go_upto_region 7 with fail
      go_quiet ((go_at_call 147; exact Calls.quiet_of_same ((CS.out _).mono fun _ _ h => ⟨h.1, h.2.symm⟩)))
      go_wp2_with (fail)
      go_ret
      exact ⟨by rw [HV.out]; rfl, below_drewN HBB.out _⟩
    ·skip
     have CS := Lib.hid (fun W => rstop_any n W)
     by_cases hn : n = Fx.stop n
     ·have en : (n != Fx.stop n) = false := Ru.ne_f hn
      have HN' := Lib.hid hn
      clear hn
      by_cases hl : 0 < cs.length
      ·have el : decide (0 < cs.length) = true := decide_eq_true hl
       have HV : Hid (b = true) := Lib.hid (HBk.out.2 (Pr.kd10.2 ⟨Pr.ne_len.2 hl, HN'.out⟩))
       clear HBk
       go_upto_region 7 with fail
       go_quiet ((go_at_call 147; exact Calls.quiet_of_same ((CS.out _).mono fun _ _ h => ⟨h.1, h.2.symm⟩)))
       go_wp2_with (fail)
       go_ret
       exact ⟨by rw [HV.out]; rfl, below_drewN HBB.out _⟩
      ·have el : decide (0 < cs.length) = false := decide_eq_false hl
       have HV : Hid (b = false) := Lib.hid (Pr.b_false HBk.out (fun h => hl (Pr.ne_len.1 (Pr.kd10.1 h).1)))
       clear HBk
       go_upto_region 7 with fail
       go_quiet ((go_at_call 147; exact Calls.quiet_of_same ((CS.out _).mono fun _ _ h => ⟨h.1, h.2.symm⟩)))
       go_wp2_with (fail)
       go_ret
       exact ⟨by rw [HV.out]; rfl, below_drewN HBB.out _⟩
     ·have en : (n != Fx.stop n) = true := Ru.ne_t hn
      have HV : Hid (b = false) := Lib.hid (Pr.b_false HBk.out (Pr.kd_ns (by omega) (by omega) hn))
      clear HBk hn
      go_upto_region 7 with fail
      go_quiet ((go_at_call 147; exact Calls.quiet_of_same ((CS.out _).mono fun _ _ h => ⟨h.1, h.2.symm⟩)))
      go_wp2_with (fail)
      go_ret
      exact ⟨by rw [HV.out]; rfl, below_drewN HBB.out _⟩
    ·skip
     by_cases hn : n = 0
     ·have en : (n != 0) = false := Ru.ne_f hn
      have HN' := Lib.hid hn
      clear hn
      by_cases hl : cs.length = 1
      ·obtain ⟨x, rfl⟩ := List.length_eq_one_iff.1 hl
       obtain ⟨bb, off, rfl, hbb, hp⟩ := HS.out (by simp)
       have hc := hp 0 (by simp)
       rw [Nat.add_zero, show Ru.g [x] 0 = x from rfl] at hc
       clear hp hl hcl
       have HBx : Hid (b = true ↔ (Ru.begB x = false /\ ¬ (48 <= x /\ x <= 57) /\ x ∉ Pr.gaps)) := Lib.hid (HBk.out.trans (Pr.kd11'.trans ⟨fun h => Pr.del_gaps.1 h.1, fun h => ⟨Pr.del_gaps.2 h, HN'.out⟩⟩))
       have CG := Lib.hid (fun W => rbegins_any x W)
       clear HBk HS
       cases hbg : Ru.begB x
       ·rw [hbg] at CG HBx
        clear hbg
        by_cases q1 : 48 <= x
        ·have d1 : decide (48 <= x) = true := decide_eq_true q1
         by_cases q2 : x <= 57
         ·have d2 : decide (x <= 57) = true := decide_eq_true q2
          have HV : Hid (b = false) := Lib.hid (Pr.b_false HBx.out (fun h => h.2.1 ⟨q1, q2⟩))
          clear HBx
          go_wp2_with (first | (go_at_call 148; ((with_reducible refine (CG.out _).mono ?_); rintro e w4 ⟨rfl, rfl⟩)))
          go_ret
          exact ⟨by rw [HV.out]; rfl, HBB.out⟩
         ·have d2 : decide (x <= 57) = false := decide_eq_false q2
          have hnd : ¬ (48 <= x /\ x <= 57) := fun h => q2 h.2
          have HV : Hid ((!b) = true ↔ x ∈ Pr.gaps) := Lib.hid (by have h := HBx.out; cases b <;> simp [hnd] at h ⊢ <;> exact h)
          clear hnd HBx
          have hc2 : (w1.alloc (.cells #[.int .i64 9, .int .i64 10, .int .i64 12, .int .i64 13, .int .i64 32, .int .i64 34, .int .i64 39, .int .i64 40, .int .i64 41, .int .i64 91, .int .i64 93, .int .i64 123, .int .i64 125, .int .i64 58, .int .i64 59, .int .i64 44] 3)).cell? ⟨bb, off, none⟩ = some (.int .i64 x) := (((Below.refl w1.heap.size w1).alloc (Nat.le_refl _) _).cell (p := ⟨bb, off, none⟩) hbb).trans hc
          have CI2 : Hid (Calls Tryz.prog 146 #[.slice (some ⟨w1.heap.size, 0, none⟩) 16 16, .int .i64 x] (w1.alloc (.cells #[.int .i64 9, .int .i64 10, .int .i64 12, .int .i64 13, .int .i64 32, .int .i64 34, .int .i64 39, .int .i64 40, .int .i64 41, .int .i64 91, .int .i64 93, .int .i64 123, .int .i64 125, .int .i64 58, .int .i64 59, .int .i64 44] 3)) (fun e w' => e = .returned (.bool (!b)) /\ (w1.alloc (.cells #[.int .i64 9, .int .i64 10, .int .i64 12, .int .i64 13, .int .i64 32, .int .i64 34, .int .i64 39, .int .i64 40, .int .i64 41, .int .i64 91, .int .i64 93, .int .i64 123, .int .i64 125, .int .i64 58, .int .i64 59, .int .i64 44] 3)) = w')) := Lib.hid (in_any Pr.gaps x _ 16 _ _ (lit_bs w1 Pr.gaps 3) (by decide) (!b) HV.out)
          have HB3 : Hid (Below w1.heap.size w1 (w1.alloc (.cells #[.int .i64 9, .int .i64 10, .int .i64 12, .int .i64 13, .int .i64 32, .int .i64 34, .int .i64 39, .int .i64 40, .int .i64 41, .int .i64 91, .int .i64 93, .int .i64 123, .int .i64 125, .int .i64 58, .int .i64 59, .int .i64 44] 3))) := Lib.hid ((Below.refl w1.heap.size w1).alloc (Nat.le_refl _) _)
          have hbn : (!(!b)) = b := Bool.not_not b
          go_wp2_with (first | (go_at_call 146; ((with_reducible refine (CI2.out).mono ?_); rintro e w2 ⟨rfl, rfl⟩)) | (go_at_call 148; ((with_reducible refine (CG.out _).mono ?_); rintro e w4 ⟨rfl, rfl⟩)))
          go_ret
          exact ⟨by simp, below_next HBB.out HB3.out⟩
        ·have d1 : decide (48 <= x) = false := decide_eq_false q1
         have hnd : ¬ (48 <= x /\ x <= 57) := fun h => q1 h.1
         have HV : Hid ((!b) = true ↔ x ∈ Pr.gaps) := Lib.hid (by have h := HBx.out; cases b <;> simp [hnd] at h ⊢ <;> exact h)
         clear hnd HBx
         have hc2 : (w1.alloc (.cells #[.int .i64 9, .int .i64 10, .int .i64 12, .int .i64 13, .int .i64 32, .int .i64 34, .int .i64 39, .int .i64 40, .int .i64 41, .int .i64 91, .int .i64 93, .int .i64 123, .int .i64 125, .int .i64 58, .int .i64 59, .int .i64 44] 3)).cell? ⟨bb, off, none⟩ = some (.int .i64 x) := (((Below.refl w1.heap.size w1).alloc (Nat.le_refl _) _).cell (p := ⟨bb, off, none⟩) hbb).trans hc
         have CI2 : Hid (Calls Tryz.prog 146 #[.slice (some ⟨w1.heap.size, 0, none⟩) 16 16, .int .i64 x] (w1.alloc (.cells #[.int .i64 9, .int .i64 10, .int .i64 12, .int .i64 13, .int .i64 32, .int .i64 34, .int .i64 39, .int .i64 40, .int .i64 41, .int .i64 91, .int .i64 93, .int .i64 123, .int .i64 125, .int .i64 58, .int .i64 59, .int .i64 44] 3)) (fun e w' => e = .returned (.bool (!b)) /\ (w1.alloc (.cells #[.int .i64 9, .int .i64 10, .int .i64 12, .int .i64 13, .int .i64 32, .int .i64 34, .int .i64 39, .int .i64 40, .int .i64 41, .int .i64 91, .int .i64 93, .int .i64 123, .int .i64 125, .int .i64 58, .int .i64 59, .int .i64 44] 3)) = w')) := Lib.hid (in_any Pr.gaps x _ 16 _ _ (lit_bs w1 Pr.gaps 3) (by decide) (!b) HV.out)
         have HB3 : Hid (Below w1.heap.size w1 (w1.alloc (.cells #[.int .i64 9, .int .i64 10, .int .i64 12, .int .i64 13, .int .i64 32, .int .i64 34, .int .i64 39, .int .i64 40, .int .i64 41, .int .i64 91, .int .i64 93, .int .i64 123, .int .i64 125, .int .i64 58, .int .i64 59, .int .i64 44] 3))) := Lib.hid ((Below.refl w1.heap.size w1).alloc (Nat.le_refl _) _)
         have hbn : (!(!b)) = b := Bool.not_not b
         go_wp2_with (first | (go_at_call 146; ((with_reducible refine (CI2.out).mono ?_); rintro e w2 ⟨rfl, rfl⟩)) | (go_at_call 148; ((with_reducible refine (CG.out _).mono ?_); rintro e w4 ⟨rfl, rfl⟩)))
         go_ret
         exact ⟨by simp, below_next HBB.out HB3.out⟩
       ·rw [hbg] at CG HBx
        have HV : Hid (b = false) := Lib.hid (Pr.b_false HBx.out (fun h => by cases h.1))
        clear hbg
        clear HBx
        go_wp2_with (first | (go_at_call 148; ((with_reducible refine (CG.out _).mono ?_); rintro e w4 ⟨rfl, rfl⟩)))
        go_ret
        exact ⟨by rw [HV.out]; rfl, HBB.out⟩
      ·have el : ((cs.length : Int) == 1) = false := Ru.eq_f (by omega)
       have HV : Hid (b = false) := Lib.hid (Pr.b_false HBk.out (Pr.kd11n hl))
       clear HBk
       go_wp2_with (fail)
       go_ret
       exact ⟨by rw [HV.out]; rfl, HBB.out⟩
     ·have en : (n != 0) = true := Ru.ne_t hn
      have HV : Hid (b = false) := Lib.hid (Pr.b_false HBk.out (Pr.kd_nn (by omega) hn))
      clear HBk hn
      go_wp2_with (fail)
      go_ret
      exact ⟨by rw [HV.out]; rfl, HBB.out⟩
    ·skip
     by_cases hn : n = 0
     ·have en : (n != 0) = false := Ru.ne_f hn
      have HN' := Lib.hid hn
      clear hn
      by_cases hl : cs.length = 1
      ·obtain ⟨x, rfl⟩ := List.length_eq_one_iff.1 hl
       obtain ⟨bb, off, rfl, hbb, hp⟩ := HS.out (by simp)
       have hc := hp 0 (by simp)
       rw [Nat.add_zero, show Ru.g [x] 0 = x from rfl] at hc
       clear hp hl hcl
       have HBx : Hid (b = true ↔ x ∈ [40, 91, 123]) := Lib.hid (HBk.out.trans (Pr.kd12'.trans ⟨fun h => h.1, fun h => ⟨h, HN'.out⟩⟩))
       have hc2 : (w1.alloc (.cells #[.int .i64 40, .int .i64 91, .int .i64 123] 3)).cell? ⟨bb, off, none⟩ = some (.int .i64 x) := (((Below.refl w1.heap.size w1).alloc (Nat.le_refl _) _).cell (p := ⟨bb, off, none⟩) hbb).trans hc
       have CI2 : Hid (Calls Tryz.prog 146 #[.slice (some ⟨w1.heap.size, 0, none⟩) 3 3, .int .i64 x] (w1.alloc (.cells #[.int .i64 40, .int .i64 91, .int .i64 123] 3)) (fun e w' => e = .returned (.bool b) /\ (w1.alloc (.cells #[.int .i64 40, .int .i64 91, .int .i64 123] 3)) = w')) := Lib.hid (in_any [40, 91, 123] x _ 3 _ _ (lit_bs w1 [40, 91, 123] 3) (by decide) b HBx.out)
       have HB3 : Hid (Below w1.heap.size w1 (w1.alloc (.cells #[.int .i64 40, .int .i64 91, .int .i64 123] 3))) := Lib.hid ((Below.refl w1.heap.size w1).alloc (Nat.le_refl _) _)
       clear HBk HBx HS
       go_wp2_with (first | (go_at_call 146; ((with_reducible refine (CI2.out).mono ?_); rintro e w2 ⟨rfl, rfl⟩)))
       go_ret
       exact ⟨rfl, below_next HBB.out HB3.out⟩
      ·have el : ((cs.length : Int) == 1) = false := Ru.eq_f (by omega)
       have HV : Hid (b = false) := Lib.hid (Pr.b_false HBk.out (Pr.kd12n hl))
       clear HBk
       go_wp2_with (fail)
       go_ret
       exact ⟨by rw [HV.out]; rfl, HBB.out⟩
     ·have en : (n != 0) = true := Ru.ne_t hn
      have HV : Hid (b = false) := Lib.hid (Pr.b_false HBk.out (Pr.kd_nn (by omega) hn))
      clear HBk hn
      go_wp2_with (fail)
      go_ret
      exact ⟨by rw [HV.out]; rfl, HBB.out⟩
    ·skip
     by_cases hn : n = 0
     ·have en : (n != 0) = false := Ru.ne_f hn
      have HN' := Lib.hid hn
      clear hn
      by_cases hl : cs.length = 1
      ·obtain ⟨x, rfl⟩ := List.length_eq_one_iff.1 hl
       obtain ⟨bb, off, rfl, hbb, hp⟩ := HS.out (by simp)
       have hc := hp 0 (by simp)
       rw [Nat.add_zero, show Ru.g [x] 0 = x from rfl] at hc
       clear hp hl hcl
       have HBx : Hid (b = true ↔ x ∈ [41, 93, 125]) := Lib.hid (HBk.out.trans (Pr.kd13'.trans ⟨fun h => h.1, fun h => ⟨h, HN'.out⟩⟩))
       have hc2 : (w1.alloc (.cells #[.int .i64 41, .int .i64 93, .int .i64 125] 3)).cell? ⟨bb, off, none⟩ = some (.int .i64 x) := (((Below.refl w1.heap.size w1).alloc (Nat.le_refl _) _).cell (p := ⟨bb, off, none⟩) hbb).trans hc
       have CI2 : Hid (Calls Tryz.prog 146 #[.slice (some ⟨w1.heap.size, 0, none⟩) 3 3, .int .i64 x] (w1.alloc (.cells #[.int .i64 41, .int .i64 93, .int .i64 125] 3)) (fun e w' => e = .returned (.bool b) /\ (w1.alloc (.cells #[.int .i64 41, .int .i64 93, .int .i64 125] 3)) = w')) := Lib.hid (in_any [41, 93, 125] x _ 3 _ _ (lit_bs w1 [41, 93, 125] 3) (by decide) b HBx.out)
       have HB3 : Hid (Below w1.heap.size w1 (w1.alloc (.cells #[.int .i64 41, .int .i64 93, .int .i64 125] 3))) := Lib.hid ((Below.refl w1.heap.size w1).alloc (Nat.le_refl _) _)
       clear HBk HBx HS
       go_wp2_with (first | (go_at_call 146; ((with_reducible refine (CI2.out).mono ?_); rintro e w2 ⟨rfl, rfl⟩)))
       go_ret
       exact ⟨rfl, below_next HBB.out HB3.out⟩
      ·have el : ((cs.length : Int) == 1) = false := Ru.eq_f (by omega)
       have HV : Hid (b = false) := Lib.hid (Pr.b_false HBk.out (Pr.kd13n hl))
       clear HBk
       go_wp2_with (fail)
       go_ret
       exact ⟨by rw [HV.out]; rfl, HBB.out⟩
     ·have en : (n != 0) = true := Ru.ne_t hn
      have HV : Hid (b = false) := Lib.hid (Pr.b_false HBk.out (Pr.kd_nn (by omega) hn))
      clear HBk hn
      go_wp2_with (fail)
      go_ret
      exact ⟨by rw [HV.out]; rfl, HBB.out⟩
    ·skip
     by_cases hn : n = 0
     ·have en : (n != 0) = false := Ru.ne_f hn
      have HN' := Lib.hid hn
      clear hn
      by_cases hl : cs.length = 0
      ·have el : ((cs.length : Int) == 0) = true := Ru.eq_t (by omega)
       have HV : Hid (b = true) := Lib.hid (HBk.out.2 (Pr.kd14.2 ⟨Pr.eq_len.2 hl, HN'.out⟩))
       clear HBk
       go_wp2_with (fail)
       go_ret
       exact ⟨by rw [HV.out]; rfl, HBB.out⟩
      ·have el : ((cs.length : Int) == 0) = false := Ru.eq_f (by omega)
       have HV : Hid (b = false) := Lib.hid (Pr.b_false HBk.out (fun h => hl (Pr.eq_len.1 (Pr.kd14.1 h).1)))
       clear HBk
       go_wp2_with (fail)
       go_ret
       exact ⟨by rw [HV.out]; rfl, HBB.out⟩
     ·have en : (n != 0) = true := Ru.ne_t hn
      have HV : Hid (b = false) := Lib.hid (Pr.b_false HBk.out (Pr.kd_nn (by omega) hn))
      clear HBk hn
      go_wp2_with (fail)
      go_ret
      exact ⟨by rw [HV.out]; rfl, HBB.out⟩
    ·skip
     by_cases hn : n = 0
     ·have en : (n != 0) = false := Ru.ne_f hn
      have HN' := Lib.hid hn
      clear hn
      by_cases hl : cs.length = 0
      ·have el : ((cs.length : Int) == 0) = true := Ru.eq_t (by omega)
       have HV : Hid (b = true) := Lib.hid (HBk.out.2 (Pr.kd15.2 ⟨Pr.eq_len.2 hl, HN'.out⟩))
       clear HBk
       go_wp2_with (fail)
       go_ret
       exact ⟨by rw [HV.out]; rfl, HBB.out⟩
      ·have el : ((cs.length : Int) == 0) = false := Ru.eq_f (by omega)
       have HV : Hid (b = false) := Lib.hid (Pr.b_false HBk.out (fun h => hl (Pr.eq_len.1 (Pr.kd15.1 h).1)))
       clear HBk
       go_wp2_with (fail)
       go_ret
       exact ⟨by rw [HV.out]; rfl, HBB.out⟩
     ·have en : (n != 0) = true := Ru.ne_t hn
      have HV : Hid (b = false) := Lib.hid (Pr.b_false HBk.out (Pr.kd_nn (by omega) hn))
      clear HBk hn
      go_wp2_with (fail)
      go_ret
      exact ⟨by rw [HV.out]; rfl, HBB.out⟩
    ·skip
     by_cases hn : n = 0
     ·have en : (n != 0) = false := Ru.ne_f hn
      have HN' := Lib.hid hn
      clear hn
      by_cases hl : cs.length = 0
      ·have el : ((cs.length : Int) == 0) = true := Ru.eq_t (by omega)
       have HV : Hid (b = true) := Lib.hid (HBk.out.2 (Pr.kd16.2 ⟨Pr.eq_len.2 hl, HN'.out⟩))
       clear HBk
       go_wp2_with (fail)
       go_ret
       exact ⟨by rw [HV.out]; rfl, HBB.out⟩
      ·have el : ((cs.length : Int) == 0) = false := Ru.eq_f (by omega)
       have HV : Hid (b = false) := Lib.hid (Pr.b_false HBk.out (fun h => hl (Pr.eq_len.1 (Pr.kd16.1 h).1)))
       clear HBk
       go_wp2_with (fail)
       go_ret
       exact ⟨by rw [HV.out]; rfl, HBB.out⟩
     ·have en : (n != 0) = true := Ru.ne_t hn
      have HV : Hid (b = false) := Lib.hid (Pr.b_false HBk.out (Pr.kd_nn (by omega) hn))
      clear HBk hn
      go_wp2_with (fail)
      go_ret
      exact ⟨by rw [HV.out]; rfl, HBB.out⟩
   ·have HV : Hid (b = false) := Lib.hid (Pr.b_false HBk.out (Pr.kd_out (by omega)))
    clear HBk
    by_cases hlo : k < 1
    ·skip
     have d8 : decide (k < 8) = true := decide_eq_true (by omega)
     have d10 : decide (10 < k) = false := decide_eq_false (by omega)
     have e2 : decide (2 <= k) = false := decide_eq_false (by omega)
     have e5 : decide (k <= 5) = true := decide_eq_true (by omega)
     have e1 : decide (1 <= k) = false := decide_eq_false (by omega)
     have e16 : decide (k <= 16) = true := decide_eq_true (by omega)
     have f6 : (k == 6) = false := Ru.eq_f (by omega)
     have f7 : (k == 7) = false := Ru.eq_f (by omega)
     have f10 : (k == 10) = false := Ru.eq_f (by omega)
     have f11 : (k == 11) = false := Ru.eq_f (by omega)
     have f12 : (k == 12) = false := Ru.eq_f (by omega)
     have f13 : (k == 13) = false := Ru.eq_f (by omega)
     by_cases hn : n = 0
     ·have en : (n != 0) = false := Ru.ne_f hn
      clear hn
      go_wp2_with (fail)
      go_ret
      exact ⟨by rw [HV.out]; rfl, HBB.out⟩
     ·have en : (n != 0) = true := Ru.ne_t hn
      clear hn
      go_wp2_with (fail)
      go_ret
      exact ⟨by rw [HV.out]; rfl, HBB.out⟩
    ·skip
     have d8 : decide (k < 8) = false := decide_eq_false (by omega)
     have d10 : decide (10 < k) = true := decide_eq_true (by omega)
     have e2 : decide (2 <= k) = true := decide_eq_true (by omega)
     have e5 : decide (k <= 5) = false := decide_eq_false (by omega)
     have e1 : decide (1 <= k) = true := decide_eq_true (by omega)
     have e16 : decide (k <= 16) = false := decide_eq_false (by omega)
     have f6 : (k == 6) = false := Ru.eq_f (by omega)
     have f7 : (k == 7) = false := Ru.eq_f (by omega)
     have f10 : (k == 10) = false := Ru.eq_f (by omega)
     have f11 : (k == 11) = false := Ru.eq_f (by omega)
     have f12 : (k == 12) = false := Ru.eq_f (by omega)
     have f13 : (k == 13) = false := Ru.eq_f (by omega)
     by_cases hn : n = 0
     ·have en : (n != 0) = false := Ru.ne_f hn
      clear hn
      go_wp2_with (fail)
      go_ret
      exact ⟨by rw [HV.out]; rfl, HBB.out⟩
     ·have en : (n != 0) = true := Ru.ne_t hn
      clear hn
      go_wp2_with (fail)
      go_ret
      exact ⟨by rw [HV.out]; rfl, HBB.out⟩
 ·have HN : Hid (b = false) := Lib.hid (Pr.b_false hb (Pr.oneU_not hx))
  have C := Lib.hid (chars_no hx hm W0)
  clear hb hb0 k0 hx q0 q2
  go_enter Tryz.func81, Tryz.ntmps81
  go_upto_region 1 with fail
  rw [<- hW]
  clear hW
  go_wp2_with (first | (go_at_call 145; ((with_reducible refine (C.out).mono ?_); rintro e w1 ⟨rfl, b1⟩; have HB1 := Lib.hid b1; clear b1)))
  go_ret
  exact ⟨by rw [HN.out]; rfl, below_next HB0.out HB1.out⟩
theorem toList_eq {t : ByteArray} {l : List Int} (hl : Ru.By l) : (t.toList == (strOfNums l).toList) = decide (Ru.bs t = l) := by
 rw [Bool.eq_iff_iff, beq_iff_eq, decide_eq_true_iff]
 constructor
 ·intro h
  have e2 := Ru.bs_str hl
  unfold Ru.bs at e2 ⊢
  rw [<- Lib.toList_data] at e2 ⊢
  rw [<- e2, h]
 ·rintro rfl
  have : strOfNums (Ru.bs t) = t := Pr.bs_inj (Ru.bs_str (Ru.bs_by t))
  rw [this]
theorem by92 : Ru.By [92] := fun c hc => by rw [List.mem_singleton] at hc; omega
theorem rrightB_any (us : List Tk.Tok) (hF : Pr.FairB us) (b : Bool) (hb : b = true ↔ Pr.RightU us) (A : Option Addr) (cap : Nat) (w : World) (h : Ts w w.heap.size A us) :
 Calls Tryz.prog 45 #[.slice A us.length cap] w (Bo b w) := by
 have hm := hF.1
 have H := Lib.hid h
 have HF := Lib.hid hF.2
 have HBb := Lib.hid hb
 clear h hF hb
 go_enter Tryz.func45, Tryz.ntmps45
 go_wp2_with fail
 go_loopw [3] (fun v3 wr => ∃ k : Nat, k <= us.length /\ v3 = .int .i64 k /\ Hid (∀ j, j < k -> Pr.OkAt us j) /\ Hid (Below w.heap.size w wr)) (fun v3 _ => us.length - (RowKit.intOf v3).toNat)
 case atStart => exact ⟨0, Nat.zero_le _, rfl, Lib.hid (fun j hj => by omega), Lib.hid (Below.refl _ _)⟩
 case round =>
  obtain ⟨k, hk, rfl, HK, HB⟩ := hrel
  by_cases hlt : k < us.length
  ·have HR := Lib.hid (H.out.next HB.out)
   obtain ⟨bb, off, rfl, hbb, hp⟩ := HR.out (by omega)
   obtain ⟨p0, p1, p2⟩ := hp k hlt
   have HP2 : Hid (∀ (h2 : k + 1 < us.length), wr.cell? ⟨bb, off + (k + 1) * 3, none⟩ = some (.int .i64 (Tk.tk us (k + 1)).1)) := Lib.hid fun h2 => (hp (k + 1) h2).1
   have hsz := HF.out k hlt
   have HOk : Hid (Pr.OkAt us k ↔ (Pr.OneU (Tk.tk us k) /\ Pr.stnB (Tk.tk us k).1 (Tk.tk us k).2.1 (Pr.nxK us (k + 1)) = true)) := Lib.hid Iff.rfl
   have HNo : Hid (¬ Pr.OkAt us k -> b = false) := Lib.hid fun h => Pr.b_false HBb.out (fun hr => h (hr.2 k hlt))
   have HYes : Hid (Pr.OkAt us k -> ∀ j, j < k + 1 -> Pr.OkAt us j) := Lib.hid fun h j hj => by
    by_cases hj2 : j < k
    ·exact HK.out j hj2
    ·obtain rfl : j = k := by omega
     exact h
   have HNx : Hid (Pr.nxK us (k + 1) = if k + 1 < us.length then some (Tk.tk us (k + 1)).1 else none) := Lib.hid rfl
   clear hp HBb HK HF
   generalize Pr.nxK us (k + 1) = nx at *
   generalize (Tk.tk us (k + 1)).1 = k1 at *
   generalize Tk.tk us k = u at *
   obtain ⟨kd, t, n⟩ := u
   simp only at p0 p1 p2 hsz HOk
   by_cases ho : Pr.OneU (kd, t, n)
   ·have C := Lib.hid (rone_any kd n t (by omega) true (by simp [ho]) wr)
    have HOk2 : Hid (Pr.OkAt us k ↔ Pr.stnB kd t nx = true) := Lib.hid (HOk.out.trans ⟨fun h => h.2, fun h => ⟨ho, h⟩⟩)
    clear HOk ho
    by_cases hl : k + 1 < us.length
    ·have hl1 : ((k : Int) + 1 == (us.length : Int)) = false := Ru.eq_f (by omega)
     have p3 := HP2.out hl
     have e := HNx.out
     rw [if_pos hl] at e
     subst e
     clear HP2 HNx
     by_cases g1 : kd = 1
     ·subst g1
      by_cases h1 : k1 = 1
      ·subst h1
       have HV : Hid (b = false) := Lib.hid (HNo.out (fun h => by have h2 := HOk2.out.1 h; cases h2))
       clear HYes HNo HOk2
       try clear g1
       try clear g7
       try clear g11
       try clear h1
       try clear ht
       unfold tokV at C
       go_upto_region 10 with (first | (go_at_call 81; ((with_reducible refine (C.out).mono ?_); rintro e w1 ⟨rfl, b1⟩; have HB1 := Lib.hid b1; have r0 := (b1.cell (p := ⟨bb, off + k * 3, none⟩) hbb).trans p0; have r1 := (b1.cell (p := ⟨bb, off + k * 3 + 1, none⟩) hbb).trans p1; have r3 := (b1.cell (p := ⟨bb, off + (k + 1) * 3, none⟩) hbb).trans p3; clear b1)))
       go_quiet (fail)
       go_wp2_with fail
       go_ret
       exact ⟨by rw [HV.out]; rfl, below_next HB.out (below_drewN HB1.out _)⟩
      ·have f1 : (k1 == 1) = false := Ru.eq_f h1
       have f1' : (k1 != 1) = true := Ru.ne_t h1
       have HV := Lib.hid (HYes.out (HOk2.out.2 (by unfold Pr.stnB; rw [if_pos rfl]; exact decide_eq_true (by simpa using h1))))
       clear HYes HNo HOk2
       try clear g1
       try clear g7
       try clear g11
       try clear h1
       try clear ht
       unfold tokV at C
       go_upto_region 10 with (first | (go_at_call 81; ((with_reducible refine (C.out).mono ?_); rintro e w1 ⟨rfl, b1⟩; have HB1 := Lib.hid b1; have r0 := (b1.cell (p := ⟨bb, off + k * 3, none⟩) hbb).trans p0; have r1 := (b1.cell (p := ⟨bb, off + k * 3 + 1, none⟩) hbb).trans p1; have r3 := (b1.cell (p := ⟨bb, off + (k + 1) * 3, none⟩) hbb).trans p3; clear b1)))
       go_quiet (fail)
       go_wp2_with fail
       go_roundw
       case rel => exact ⟨k + 1, by omega, by go_num, HV, Lib.hid (below_next HB.out (below_drewN HB1.out _))⟩
       case measure => simp [RowKit.intOf]; omega
     ·skip
      by_cases g7 : kd = 7
      ·subst g7
       by_cases h1 : k1 = 1
       ·subst h1
        have HV := Lib.hid (HYes.out (HOk2.out.2 (rfl)))
        clear HYes HNo HOk2
        try clear g1
        try clear g7
        try clear g11
        try clear h1
        try clear ht
        unfold tokV at C
        go_upto_region 10 with (first | (go_at_call 81; ((with_reducible refine (C.out).mono ?_); rintro e w1 ⟨rfl, b1⟩; have HB1 := Lib.hid b1; have r0 := (b1.cell (p := ⟨bb, off + k * 3, none⟩) hbb).trans p0; have r1 := (b1.cell (p := ⟨bb, off + k * 3 + 1, none⟩) hbb).trans p1; have r3 := (b1.cell (p := ⟨bb, off + (k + 1) * 3, none⟩) hbb).trans p3; clear b1)))
        go_quiet (fail)
        go_wp2_with fail
        go_roundw
        case rel => exact ⟨k + 1, by omega, by go_num, HV, Lib.hid (below_next HB.out (below_drewN HB1.out _))⟩
        case measure => simp [RowKit.intOf]; omega
       ·have f1 : (k1 == 1) = false := Ru.eq_f h1
        have f1' : (k1 != 1) = true := Ru.ne_t h1
        have HV : Hid (b = false) := Lib.hid (HNo.out (fun h => by have h2 := HOk2.out.1 h; unfold Pr.stnB at h2; rw [if_neg (by decide), if_pos rfl] at h2; exact h1 (by simpa using of_decide_eq_true h2)))
        clear HYes HNo HOk2
        try clear g1
        try clear g7
        try clear g11
        try clear h1
        try clear ht
        unfold tokV at C
        go_upto_region 10 with (first | (go_at_call 81; ((with_reducible refine (C.out).mono ?_); rintro e w1 ⟨rfl, b1⟩; have HB1 := Lib.hid b1; have r0 := (b1.cell (p := ⟨bb, off + k * 3, none⟩) hbb).trans p0; have r1 := (b1.cell (p := ⟨bb, off + k * 3 + 1, none⟩) hbb).trans p1; have r3 := (b1.cell (p := ⟨bb, off + (k + 1) * 3, none⟩) hbb).trans p3; clear b1)))
        go_quiet (fail)
        go_wp2_with fail
        go_ret
        exact ⟨by rw [HV.out]; rfl, below_next HB.out (below_drewN HB1.out _)⟩
      ·skip
       by_cases g11 : kd = 11
       ·subst g11
        by_cases ht : t = ⟨#[92]⟩
        ·have hts : (t.toList == (strOfNums [92]).toList) = true := by rw [toList_eq by92, ht]; rfl
         by_cases h1 : k1 = 1
         ·subst h1
          have HV := Lib.hid (HYes.out (HOk2.out.2 (by unfold Pr.stnB; rw [if_neg (by decide), if_neg (by decide), if_pos ⟨rfl, ht⟩]; rfl)))
          clear HYes HNo HOk2
          try clear g1
          try clear g7
          try clear g11
          try clear h1
          try clear ht
          unfold tokV at C
          go_upto_region 10 with (first | (go_at_call 81; ((with_reducible refine (C.out).mono ?_); rintro e w1 ⟨rfl, b1⟩; have HB1 := Lib.hid b1; have r0 := (b1.cell (p := ⟨bb, off + k * 3, none⟩) hbb).trans p0; have r1 := (b1.cell (p := ⟨bb, off + k * 3 + 1, none⟩) hbb).trans p1; have r3 := (b1.cell (p := ⟨bb, off + (k + 1) * 3, none⟩) hbb).trans p3; clear b1)))
          have hb1 := Nat.lt_of_lt_of_le hbb HB1.out.size
          have hcl := fun (W : World) (h : W.cell? ⟨w1.heap.size, 0, none⟩ = some (.int .u8 92)) => conv_back1 h
          obtain ⟨X, hX⟩ : ∃ X, X = strOfNums [92] := ⟨_, rfl⟩
          rw [<- hX] at hcl hts
          clear hX
          go_region
          all_goals
           go_wp2_with fail
           go_roundw
           case rel => exact ⟨k + 1, by omega, by go_num, HV, Lib.hid (below_next HB.out (below_next HB1.out (by first | exact (Below.refl _ _).alloc (Nat.le_refl _) _ | exact ((Below.refl _ _).alloc (Nat.le_refl _) _).drew | exact below_drewN ((Below.refl _ _).alloc (Nat.le_refl _) _) _)))⟩
           case measure => simp [RowKit.intOf]; omega
         ·have f1' : (k1 != 1) = true := Ru.ne_t h1
          have f1 : (k1 == 1) = false := Ru.eq_f h1
          have HV : Hid (b = false) := Lib.hid (HNo.out (fun h => by have h2 := HOk2.out.1 h; unfold Pr.stnB at h2; rw [if_neg (by decide), if_neg (by decide), if_pos ⟨rfl, ht⟩] at h2; have h3 := of_decide_eq_true h2; rcases h3 with h3 | h3; exact h1 (by simpa using h3); cases h3))
          clear HYes HNo HOk2
          try clear g1
          try clear g7
          try clear g11
          try clear h1
          try clear ht
          unfold tokV at C
          go_upto_region 10 with (first | (go_at_call 81; ((with_reducible refine (C.out).mono ?_); rintro e w1 ⟨rfl, b1⟩; have HB1 := Lib.hid b1; have r0 := (b1.cell (p := ⟨bb, off + k * 3, none⟩) hbb).trans p0; have r1 := (b1.cell (p := ⟨bb, off + k * 3 + 1, none⟩) hbb).trans p1; have r3 := (b1.cell (p := ⟨bb, off + (k + 1) * 3, none⟩) hbb).trans p3; clear b1)))
          have hb1 := Nat.lt_of_lt_of_le hbb HB1.out.size
          have hcl := fun (W : World) (h : W.cell? ⟨w1.heap.size, 0, none⟩ = some (.int .u8 92)) => conv_back1 h
          obtain ⟨X, hX⟩ : ∃ X, X = strOfNums [92] := ⟨_, rfl⟩
          rw [<- hX] at hcl hts
          clear hX
          go_region
          all_goals
           go_wp2_with fail
           go_ret
           exact ⟨by rw [HV.out]; rfl, below_next HB.out (below_next HB1.out (by first | exact (Below.refl _ _).alloc (Nat.le_refl _) _ | exact ((Below.refl _ _).alloc (Nat.le_refl _) _).drew | exact below_drewN ((Below.refl _ _).alloc (Nat.le_refl _) _) _))⟩
        ·have hts : (t.toList == (strOfNums [92]).toList) = false := by rw [toList_eq by92]; exact decide_eq_false (fun h => ht (Pr.bs_inj (by rw [h]; rfl)))
         have HV := Lib.hid (HYes.out (HOk2.out.2 (by unfold Pr.stnB; rw [if_neg (by decide), if_neg (by decide), if_neg (fun h => ht h.2)])))
         clear HYes HNo HOk2
         try clear g1
         try clear g7
         try clear g11
         try clear h1
         try clear ht
         unfold tokV at C
         go_upto_region 10 with (first | (go_at_call 81; ((with_reducible refine (C.out).mono ?_); rintro e w1 ⟨rfl, b1⟩; have HB1 := Lib.hid b1; have r0 := (b1.cell (p := ⟨bb, off + k * 3, none⟩) hbb).trans p0; have r1 := (b1.cell (p := ⟨bb, off + k * 3 + 1, none⟩) hbb).trans p1; have r3 := (b1.cell (p := ⟨bb, off + (k + 1) * 3, none⟩) hbb).trans p3; clear b1)))
         have hb1 := Nat.lt_of_lt_of_le hbb HB1.out.size
         have hcl := fun (W : World) (h : W.cell? ⟨w1.heap.size, 0, none⟩ = some (.int .u8 92)) => conv_back1 h
         obtain ⟨X, hX⟩ : ∃ X, X = strOfNums [92] := ⟨_, rfl⟩
         rw [<- hX] at hcl hts
         clear hX
         go_region
         all_goals
          go_wp2_with fail
          go_roundw
          case rel => exact ⟨k + 1, by omega, by go_num, HV, Lib.hid (below_next HB.out (below_next HB1.out (by first | exact (Below.refl _ _).alloc (Nat.le_refl _) _ | exact ((Below.refl _ _).alloc (Nat.le_refl _) _).drew | exact below_drewN ((Below.refl _ _).alloc (Nat.le_refl _) _) _)))⟩
          case measure => simp [RowKit.intOf]; omega
       ·skip
        have f1' : (kd == 1) = false := Ru.eq_f g1
        have f7' : (kd == 7) = false := Ru.eq_f g7
        have f11' : (kd == 11) = false := Ru.eq_f g11
        have HV := Lib.hid (HYes.out (HOk2.out.2 (by unfold Pr.stnB; rw [if_neg g1, if_neg g7, if_neg (fun h => g11 h.1)])))
        clear HYes HNo HOk2
        try clear g1
        try clear g7
        try clear g11
        try clear h1
        try clear ht
        unfold tokV at C
        go_upto_region 10 with (first | (go_at_call 81; ((with_reducible refine (C.out).mono ?_); rintro e w1 ⟨rfl, b1⟩; have HB1 := Lib.hid b1; have r0 := (b1.cell (p := ⟨bb, off + k * 3, none⟩) hbb).trans p0; have r1 := (b1.cell (p := ⟨bb, off + k * 3 + 1, none⟩) hbb).trans p1; have r3 := (b1.cell (p := ⟨bb, off + (k + 1) * 3, none⟩) hbb).trans p3; clear b1)))
        go_quiet (fail)
        go_wp2_with fail
        go_roundw
        case rel => exact ⟨k + 1, by omega, by go_num, HV, Lib.hid (below_next HB.out (below_drewN HB1.out _))⟩
        case measure => simp [RowKit.intOf]; omega
    ·have hl1 : ((k : Int) + 1 == (us.length : Int)) = true := Ru.eq_t (by omega)
     have e := HNx.out
     rw [if_neg hl] at e
     subst e
     clear HP2 HNx
     by_cases g1 : kd = 1
     ·subst g1
      have HV := Lib.hid (HYes.out (HOk2.out.2 (rfl)))
      clear HYes HNo HOk2
      try clear g1
      try clear g7
      try clear g11
      try clear h1
      try clear ht
      unfold tokV at C
      go_wp2_with (first | (go_at_call 81; ((with_reducible refine (C.out).mono ?_); rintro e w1 ⟨rfl, b1⟩; have HB1 := Lib.hid b1; have r0 := (b1.cell (p := ⟨bb, off + k * 3, none⟩) hbb).trans p0; clear b1)))
      go_roundw
      case rel => exact ⟨k + 1, by omega, by go_num, HV, Lib.hid (below_next HB.out HB1.out)⟩
      case measure => simp [RowKit.intOf]; omega
     ·skip
      by_cases g7 : kd = 7
      ·subst g7
       have HV : Hid (b = false) := Lib.hid (HNo.out (fun h => by have h2 := HOk2.out.1 h; cases h2))
       clear HYes HNo HOk2
       unfold tokV at C
       go_wp2_with (first | (go_at_call 81; ((with_reducible refine (C.out).mono ?_); rintro e w1 ⟨rfl, b1⟩; have HB1 := Lib.hid b1; have r0 := (b1.cell (p := ⟨bb, off + k * 3, none⟩) hbb).trans p0; clear b1)))
       go_ret
       exact ⟨by rw [HV.out]; rfl, below_next HB.out HB1.out⟩
      ·skip
       by_cases g11 : kd = 11
       ·subst g11
        have HV := Lib.hid (HYes.out (HOk2.out.2 (by unfold Pr.stnB; rw [if_neg (by decide), if_neg (by decide)]; split <;> rfl)))
        clear HYes HNo HOk2
        try clear g1
        try clear g7
        try clear g11
        try clear h1
        try clear ht
        unfold tokV at C
        go_wp2_with (first | (go_at_call 81; ((with_reducible refine (C.out).mono ?_); rintro e w1 ⟨rfl, b1⟩; have HB1 := Lib.hid b1; have r0 := (b1.cell (p := ⟨bb, off + k * 3, none⟩) hbb).trans p0; clear b1)))
        go_roundw
        case rel => exact ⟨k + 1, by omega, by go_num, HV, Lib.hid (below_next HB.out HB1.out)⟩
        case measure => simp [RowKit.intOf]; omega
       ·skip
        have HV := Lib.hid (HYes.out (HOk2.out.2 (by unfold Pr.stnB; rw [if_neg g1, if_neg g7, if_neg (fun h => g11 h.1)])))
        clear HYes HNo HOk2
        have f7 : (kd == 7) = false := Ru.eq_f g7
        try clear g1
        try clear g7
        try clear g11
        try clear h1
        try clear ht
        unfold tokV at C
        go_wp2_with (first | (go_at_call 81; ((with_reducible refine (C.out).mono ?_); rintro e w1 ⟨rfl, b1⟩; have HB1 := Lib.hid b1; have r0 := (b1.cell (p := ⟨bb, off + k * 3, none⟩) hbb).trans p0; clear b1)))
        go_roundw
        case rel => exact ⟨k + 1, by omega, by go_num, HV, Lib.hid (below_next HB.out HB1.out)⟩
        case measure => simp [RowKit.intOf]; omega
   ·have C := Lib.hid (rone_any kd n t (by omega) false (by simp [ho]) wr)
    have HV : Hid (b = false) := Lib.hid (HNo.out (fun h => ho (HOk.out.1 h).1))
    clear HOk ho HNo HYes
    unfold tokV at C
    go_wp2_with (first | (go_at_call 81; ((with_reducible refine (C.out).mono ?_); rintro e w1 ⟨rfl, b1⟩; have HB1 := Lib.hid b1; clear b1)))
    go_ret
    exact ⟨by rw [HV.out]; rfl, below_next HB.out HB1.out⟩
  ·obtain rfl : b = true := HBb.out.2 ⟨by omega, fun j hj => HK.out j (by omega)⟩
   have hle : decide ((us.length : Int) <= 16384) = true := decide_eq_true (by omega)
   clear HBb HK HF H
   go_wp2_with fail
   go_ret
   exact ⟨rfl, HB.out⟩
namespace Rl
def okS (us : List Tk.Tok) (i : Nat) : Prop := Ru.g (Ns.ends us) i ≠ (us.length : Int) /\ (Tk.tk us i).1 ≠ 7 /\ ¬ ((Tk.tk us i).1 = 11 /\ (Tk.tk us i).2.1 = ⟨#[92]⟩) /\ ((Tk.tk us i).1 = 13 -> ∃ j, j < i /\ Ru.g (Ns.ends us) j = (i : Int))
def SdIs (sd : List Tk.Tok -> Bool) : Prop := ∀ us, sd us = true ↔ (Pr.RightU us /\ ¬ Ns.deep us /\ ∀ i, i < us.length -> okS us i)
def strB (es : List Int) (kd : Int) (k j : Nat) : Bool := decide (kd = 13) && decide (∀ i, i < j -> Ru.g es i ≠ (k : Int))
theorem strB_0 (es : List Int) (kd : Int) (k : Nat) : strB es kd k 0 = (kd == 13) := by
 unfold strB
 rw [decide_eq_true (p := ∀ i, i < 0 -> Ru.g es i ≠ (k : Int)) (fun i hi => absurd hi (Nat.not_lt_zero _)), Bool.and_true]
 by_cases h : kd = 13
 ·subst h; rfl
 ·rw [decide_eq_false h, beq_false_of_ne h]
theorem strB_hit {es : List Int} {kd : Int} {k j : Nat} (h : Ru.g es j = (k : Int)) : strB es kd k (j + 1) = false := by
 unfold strB
 rw [decide_eq_false (p := ∀ i, i < j + 1 -> Ru.g es i ≠ (k : Int)) (fun c => c j (Nat.lt_succ_self j) h), Bool.and_false]
theorem strB_on {es : List Int} {kd : Int} {k j : Nat} (h : Ru.g es j ≠ (k : Int)) : strB es kd k (j + 1) = strB es kd k j := by
 unfold strB
 congr 1
 refine decide_eq_decide.2 ⟨fun c i hi => c i (by omega), fun c i hi => ?_⟩
 by_cases e : i = j
 ·subst e; exact h
 ·exact c i (by omega)
theorem strB_yes {es : List Int} {kd : Int} {k : Nat} (h : strB es kd k k = true) : kd = 13 /\ ¬ ∃ j, j < k /\ Ru.g es j = (k : Int) := by
 unfold strB at h
 simp only [Bool.and_eq_true, decide_eq_true_eq] at h
 exact ⟨h.1, fun ⟨j, h1, h2⟩ => h.2 j h1 h2⟩
theorem strB_no {es : List Int} {kd : Int} {k : Nat} (h : strB es kd k k = false) (h13 : kd = 13) : ∃ j, j < k /\ Ru.g es j = (k : Int) := by
 unfold strB at h
 rw [decide_eq_true h13, Bool.true_and, decide_eq_false_iff_not] at h
 exact Classical.byContradiction fun c => h fun i hi e => c ⟨i, hi, e⟩
end Rl
theorem rsound_any (sd : List Tk.Tok -> Bool) (hsd : Rl.SdIs sd) : SdC sd := fun us hF A cap w hcap h => by
 have hm := hF.1
 have HEL := Lib.hid (Ns.ends_len us)
 have HSD := Lib.hid (hsd us)
 generalize sd us = b at *
 have H := Lib.hid h
 have CE : Hid (∀ W, Below w.heap.size w W -> Calls Tryz.prog 37 #[.slice A us.length cap] W (EndsIs us W)) := Lib.hid fun W hb => rends_any us (by omega) A cap W (h.next hb)
 by_cases hr : Pr.RightU us
 ·have CR := Lib.hid (rrightB_any us hF true (by simp [hr]) A cap w h)
  by_cases hd : Ns.deep us
  ·have HV : Hid (b = false) := Lib.hid (by cases hb : b with | false => rfl | true => exact absurd hd (HSD.out.1 hb).2.1)
   have CE2 : Hid (∀ W, Below w.heap.size w W -> Calls Tryz.prog 37 #[.slice A us.length cap] W (EndsBad W)) := Lib.hid fun W hb => (CE.out W hb).mono fun e w' h => h.2 hd
   clear h hF CE hsd HSD
   go_enter Tryz.func20, Tryz.ntmps20
   go_wp2_with (first | (go_at_call 45; ((with_reducible refine (CR.out).mono ?_); rintro e w1 ⟨rfl, b1⟩; have HB1 := Lib.hid b1; clear b1)) | (go_at_call 37; ((with_reducible refine (CE2.out _ HB1.out).mono ?_); rintro e w2 ⟨rfl, b2⟩; have HB2 := Lib.hid (below_next HB1.out b2); clear b2)))
   go_ret
   exact ⟨by rw [HV.out]; rfl, HB2.out⟩
  ·have CE2 : Hid (∀ W, Below w.heap.size w W -> Calls Tryz.prog 37 #[.slice A us.length cap] W (EndsRd us W)) := Lib.hid fun W hb => (CE.out W hb).mono fun e w' h => ends_rd (h.1 hd)
   have HB : Hid (b = true ↔ ∀ i, i < us.length -> Rl.okS us i) := Lib.hid ⟨fun h => (HSD.out.1 h).2.2, fun h => HSD.out.2 ⟨hr, hd, h⟩⟩
   clear h hF CE hsd HSD
   go_enter Tryz.func20, Tryz.ntmps20
   go_wp2_with (first | (go_at_call 45; ((with_reducible refine (CR.out).mono ?_); rintro e w1 ⟨rfl, b1⟩; have HB1 := Lib.hid b1; clear b1)) | (go_at_call 37; ((with_reducible refine (CE2.out _ HB1.out).mono ?_); rintro e w2 ⟨A2, c2, rfl, hc2, B2, b2⟩; have HB2 := Lib.hid (below_next HB1.out b2); have HS2 := Lib.hid B2; clear b2 B2)))
   go_loopw [5] (fun v5 wr => ∃ k : Nat, k <= us.length /\ v5 = .int .i64 k /\ Hid (∀ j, j < k -> Rl.okS us j) /\ Hid (Below w2.heap.size w2 wr)) (fun v5 _ => us.length - (RowKit.intOf v5).toNat)
   case atStart => exact ⟨0, Nat.zero_le _, rfl, Lib.hid (fun j hj => by omega), Lib.hid (Below.refl _ _)⟩
   case round =>
    obtain ⟨k, hk, rfl, HK, HBk⟩ := hrel
    by_cases hlt : k < us.length
    ·have HBW := Lib.hid (below_next HB2.out HBk.out)
     obtain ⟨bb, off, rfl, hbb, hp⟩ := H.out (by omega)
     obtain ⟨p0, p1, p2⟩ := hp k hlt
     replace p0 := (HBW.out.cell (p := ⟨bb, off + k * 3, none⟩) hbb).trans p0
     replace p1 := (HBW.out.cell (p := ⟨bb, off + k * 3 + 1, none⟩) hbb).trans p1
     replace p2 := (HBW.out.cell (p := ⟨bb, off + k * 3 + 2, none⟩) hbb).trans p2
     obtain ⟨bC, oC, rfl, hbC, hpC⟩ := HS2.out (by rw [HEL.out]; omega)
     have HBC := Lib.hid hbC
     have HPC : Hid (∀ j, j < us.length -> w2.cell? ⟨bC, oC + j, none⟩ = some (.int .i64 (Ru.g (Ns.ends us) j))) := Lib.hid fun j hj => hpC j (by rw [HEL.out]; exact hj)
     have e0 := (HBk.out.cell (p := ⟨bC, oC + k, none⟩) hbC).trans (HPC.out k hlt)
     have hec : (k : Int) < ((Ns.ends us).length : Int) := by rw [HEL.out]; omega
     have HNo : Hid (¬ Rl.okS us k -> b = false) := Lib.hid fun hn => by cases hb : b with | false => rfl | true => exact absurd (HB.out.1 hb k hlt) hn
     have HYes : Hid (Rl.okS us k -> ∀ j, j < k + 1 -> Rl.okS us j) := Lib.hid fun hy j hj => by
      by_cases hj2 : j < k
      ·exact HK.out j hj2
      ·obtain rfl : j = k := by omega
       exact hy
     have HOk : Hid (Rl.okS us k ↔ Ru.g (Ns.ends us) k ≠ (us.length : Int) /\ (Tk.tk us k).1 ≠ 7 /\ ¬ ((Tk.tk us k).1 = 11 /\ (Tk.tk us k).2.1 = ⟨#[92]⟩) /\ ((Tk.tk us k).1 = 13 -> ∃ j, j < k /\ Ru.g (Ns.ends us) j = (k : Int))) := Lib.hid Iff.rfl
     clear hp hpC hbC hbb HB HK
     generalize Tk.tk us k = u at *
     obtain ⟨kd, t, n⟩ := u
     simp only at p0 p1 p2 HOk
     go_upto_region 10 with fail
     have k3 := heap_alloc_new wr (.cells #[.int .i64 kd, .string t, .int .i64 n] 70)
     have b3 := (Below.refl wr.heap.size wr).alloc (Nat.le_refl _) (.cells #[.int .i64 kd, .string t, .int .i64 n] 70)
     generalize wr.alloc (.cells #[.int .i64 kd, .string t, .int .i64 n] 70) = w3 at k3 b3 ⊢
     obtain ⟨y0, y1, y2⟩ := tok3_cells k3
     have HB3 := Lib.hid (below_next HBk.out b3)
     have HBW3 := Lib.hid (below_next HBW.out b3)
     replace e0 := (HB3.out.cell (p := ⟨bC, oC + k, none⟩) HBC.out).trans (HPC.out k hlt)
     have hs3 : wr.heap.size < w3.heap.size := (Array.getElem?_eq_some_iff.1 k3).1
     clear p0 p1 p2 k3 b3
     clear CR CE2
     by_cases cg : Ru.g (Ns.ends us) k = (us.length : Int)
     ·have HV := Lib.hid (HNo.out (fun c => (HOk.out.1 c).1 cg))
      rw [cg] at e0
      clear cg HNo HYes HOk
      go_wp2_with fail
      go_ret
      exact ⟨by rw [HV.out]; rfl, below_next HB2.out HB3.out⟩
     ·have gb : (Ru.g (Ns.ends us) k == (us.length : Int)) = false := beq_false_of_ne cg
      by_cases c7 : kd = 7
      ·subst c7
       have HV := Lib.hid (HNo.out (fun c => (HOk.out.1 c).2.1 rfl))
       clear cg HNo HYes HOk
       go_wp2_with fail
       go_ret
       exact ⟨by rw [HV.out]; rfl, below_next HB2.out HB3.out⟩
      ·have b7 : (kd == 7) = false := beq_false_of_ne c7
       by_cases c11 : kd = 11
       ·subst c11
        have hcl := fun (W : World) (h : W.cell? ⟨w3.heap.size, 0, none⟩ = some (.int .u8 92)) => conv_back1 h
        have b4 := (Below.refl w3.heap.size w3).alloc (Nat.le_refl _) (.cells #[.int .u8 92] 5)
        by_cases ct : t = ⟨#[92]⟩
        ·have hts : (t.toList == (strOfNums [92]).toList) = true := by rw [toList_eq by92, ct]; rfl
         have HV := Lib.hid (HNo.out (fun c => (HOk.out.1 c).2.2.1 ⟨rfl, ct⟩))
         obtain ⟨X, hX⟩ : ∃ X, X = strOfNums [92] := ⟨_, rfl⟩
         rw [<- hX] at hcl hts
         clear hX cg HNo HYes HOk ct
         go_wp2_with fail
         go_ret
         exact ⟨by rw [HV.out]; rfl, below_next HB2.out (below_next HB3.out b4)⟩
        ·have hts : (t.toList == (strOfNums [92]).toList) = false := by rw [toList_eq by92]; exact decide_eq_false (fun h => ct (Pr.bs_inj (by rw [h]; rfl)))
         have HC : Hid (Rl.okS us k ↔ ((11 : Int) = 13 -> ∃ j, j < k /\ Ru.g (Ns.ends us) j = (k : Int))) := Lib.hid (HOk.out.trans ⟨fun c => c.2.2.2, fun c => ⟨cg, c7, fun x => ct x.2, c⟩⟩)
         obtain ⟨X, hX⟩ : ∃ X, X = strOfNums [92] := ⟨_, rfl⟩
         rw [<- hX] at hcl hts
         clear hX cg ct
         go_upto_region 12 with fail
         have z0 := (b4.cell (p := ⟨wr.heap.size, 0, none⟩) hs3).trans y0
         have HB4 := Lib.hid (below_next HB3.out b4)
         generalize w3.alloc (.cells #[.int .u8 92] 5) = w4 at *
         clear b4 y0 y1 y2 hcl
         have HPC4 : Hid (∀ j, j < us.length -> w4.cell? ⟨bC, oC + j, none⟩ = some (.int .i64 (Ru.g (Ns.ends us) j))) := Lib.hid fun j hj => (HB4.out.cell (p := ⟨bC, oC + j, none⟩) HBC.out).trans (HPC.out j hj)
         clear HOk HPC e0
         go_wp2_with fail
         go_loopw [7, 8] (fun v7 v8 wq => ∃ j : Nat, j <= k /\ v8 = .int .i64 j /\ v7 = .bool (Rl.strB (Ns.ends us) 11 k j) /\ wq = w4) (fun _ v8 _ => k - (RowKit.intOf v8).toNat)
         case atStart => exact ⟨0, Nat.zero_le _, rfl, by rw [Rl.strB_0]; try rfl, rfl⟩
         case round =>
          obtain ⟨j, hj, rfl, rfl, rfl⟩ := hrel
          by_cases hjk : j < k
          ·have e1 := HPC4.out j (by omega)
           have hjc : (j : Int) < ((Ns.ends us).length : Int) := by rw [HEL.out]; omega
           by_cases hq : Ru.g (Ns.ends us) j = (k : Int)
           ·have HN := Lib.hid (Rl.strB_hit (kd := 11) hq)
            rw [hq] at e1
            clear hq
            go_wp2_with fail
            go_roundw
            case rel => exact ⟨j + 1, by omega, by go_num, by rw [HN.out], trivial⟩
            case measure => simp [RowKit.intOf]; omega
           ·have HN := Lib.hid (Rl.strB_on (kd := 11) hq)
            have qb : (Ru.g (Ns.ends us) j == (k : Int)) = false := beq_false_of_ne hq
            clear hq
            go_wp2_with fail
            go_roundw
            case rel => exact ⟨j + 1, by omega, by go_num, by rw [HN.out], trivial⟩
            case measure => simp [RowKit.intOf]; omega
          ·obtain rfl : k = j := by omega
           have HSY := Lib.hid (fun h => Rl.strB_yes (es := Ns.ends us) (kd := 11) (k := k) h)
           have HSN := Lib.hid (fun h => Rl.strB_no (es := Ns.ends us) (kd := 11) (k := k) h)
           generalize Rl.strB (Ns.ends us) 11 k k = sb at *
           cases sb
           ·have HY := Lib.hid (HYes.out (HC.out.2 (HSN.out rfl)))
            clear HYes HNo HC HSY HSN
            go_wp2_with fail
            go_roundw
            case rel => exact ⟨k + 1, by omega, by go_num, HY, HB4⟩
            case measure => simp [RowKit.intOf]; omega
           ·have HV := Lib.hid (HNo.out (fun c => (HSY.out rfl).2 (HC.out.1 c (HSY.out rfl).1)))
            clear HYes HNo HC HSY HSN
            go_wp2_with fail
            go_ret
            exact ⟨by rw [HV.out]; rfl, below_next HB2.out HB4.out⟩
       ·have b11 : (kd == 11) = false := beq_false_of_ne c11
        have HC : Hid (Rl.okS us k ↔ (kd = 13 -> ∃ j, j < k /\ Ru.g (Ns.ends us) j = (k : Int))) := Lib.hid (HOk.out.trans ⟨fun c => c.2.2.2, fun c => ⟨cg, c7, fun x => c11 x.1, c⟩⟩)
        clear cg
        go_upto_region 12 with fail
        have HB4 := HB3
        generalize w3 = w4 at *
        have HPC4 : Hid (∀ j, j < us.length -> w4.cell? ⟨bC, oC + j, none⟩ = some (.int .i64 (Ru.g (Ns.ends us) j))) := Lib.hid fun j hj => (HB4.out.cell (p := ⟨bC, oC + j, none⟩) HBC.out).trans (HPC.out j hj)
        clear HOk HPC e0
        go_wp2_with fail
        go_loopw [7, 8] (fun v7 v8 wq => ∃ j : Nat, j <= k /\ v8 = .int .i64 j /\ v7 = .bool (Rl.strB (Ns.ends us) kd k j) /\ wq = w4) (fun _ v8 _ => k - (RowKit.intOf v8).toNat)
        case atStart => exact ⟨0, Nat.zero_le _, rfl, by rw [Rl.strB_0]; try rfl, rfl⟩
        case round =>
         obtain ⟨j, hj, rfl, rfl, rfl⟩ := hrel
         by_cases hjk : j < k
         ·have e1 := HPC4.out j (by omega)
          have hjc : (j : Int) < ((Ns.ends us).length : Int) := by rw [HEL.out]; omega
          by_cases hq : Ru.g (Ns.ends us) j = (k : Int)
          ·have HN := Lib.hid (Rl.strB_hit (kd := kd) hq)
           rw [hq] at e1
           clear hq
           go_wp2_with fail
           go_roundw
           case rel => exact ⟨j + 1, by omega, by go_num, by rw [HN.out], trivial⟩
           case measure => simp [RowKit.intOf]; omega
          ·have HN := Lib.hid (Rl.strB_on (kd := kd) hq)
           have qb : (Ru.g (Ns.ends us) j == (k : Int)) = false := beq_false_of_ne hq
           clear hq
           go_wp2_with fail
           go_roundw
           case rel => exact ⟨j + 1, by omega, by go_num, by rw [HN.out], trivial⟩
           case measure => simp [RowKit.intOf]; omega
         ·obtain rfl : k = j := by omega
          have HSY := Lib.hid (fun h => Rl.strB_yes (es := Ns.ends us) (kd := kd) (k := k) h)
          have HSN := Lib.hid (fun h => Rl.strB_no (es := Ns.ends us) (kd := kd) (k := k) h)
          generalize Rl.strB (Ns.ends us) kd k k = sb at *
          cases sb
          ·have HY := Lib.hid (HYes.out (HC.out.2 (HSN.out rfl)))
           clear HYes HNo HC HSY HSN
           go_wp2_with fail
           go_roundw
           case rel => exact ⟨k + 1, by omega, by go_num, HY, HB4⟩
           case measure => simp [RowKit.intOf]; omega
          ·have HV := Lib.hid (HNo.out (fun c => (HSY.out rfl).2 (HC.out.1 c (HSY.out rfl).1)))
           clear HYes HNo HC HSY HSN
           go_wp2_with fail
           go_ret
           exact ⟨by rw [HV.out]; rfl, below_next HB2.out HB4.out⟩
    ·have HV : Hid (b = true) := Lib.hid (HB.out.2 fun i hi => HK.out i (by omega))
     go_wp2_with fail
     go_ret
     exact ⟨by rw [HV.out]; rfl, below_next HB2.out HBk.out⟩
 ·have HV : Hid (b = false) := Lib.hid (by cases hb : b with | false => rfl | true => exact absurd (HSD.out.1 hb).1 hr)
  have CR := Lib.hid (rrightB_any us hF false (by simp [hr]) A cap w h)
  clear h hF CE hsd HSD
  go_enter Tryz.func20, Tryz.ntmps20
  go_wp2_with (first | (go_at_call 45; ((with_reducible refine (CR.out).mono ?_); rintro e w1 ⟨rfl, b1⟩; have HB1 := Lib.hid b1; clear b1)))
  go_ret
  exact ⟨by rw [HV.out]; rfl, HB1.out⟩
namespace Pr
open Ru Tk
def pt (ps : List PT) (k : Nat) : PT := ps.getD k (0, [], 0)
end Pr
theorem rightP_any (us : List Tk.Tok) (hF : Pr.FairB us) (hw : Pr.Wf us) (b : Bool) (hb : b = true ↔ Pr.RightU us) (A : Option Addr) (cap : Nat) (hc : us.length <= cap) (w : World) (hA : Ts w w.heap.size A us) (hT : PTab w.heap.size w) :
 Calls Tryz.prog 43 #[.slice A us.length cap] w (Bo b w) := by
 have CK := Lib.hid (kinds_any w)
 have CR : Hid (∀ M c w1, RtAt A us M c w1 -> Calls Tryz.prog 57 #[.slice A us.length cap, .map (some M)] w1 (Bo b w1)) := Lib.hid fun M c w1 h => right_any us hF hw b hb A cap hc M c w1 h
 have HA := Lib.hid hA
 have HT := Lib.hid hT
 clear hA hT hF hw hb
 go_enter Tryz.func43, Tryz.ntmps43
 go_wp2_with (first | (go_at_call 56; ((with_reducible refine (CK.out).mono ?_); rintro e w1 ⟨M, c, rfl, K1, hM, hc1, b1⟩; have C2 := Lib.hid (CR.out M c w1 ⟨HA.out.next b1, K1, hM, hc1, HT.out.next b1⟩))) | (go_at_call 57; ((with_reducible refine (C2.out).mono ?_); rintro e w2 ⟨rfl, b2⟩)))
 go_ret
 exact ⟨rfl, below_next b1 b2⟩
end Go.Proofs.YtllmjggejbdpcaaGreatDoor
