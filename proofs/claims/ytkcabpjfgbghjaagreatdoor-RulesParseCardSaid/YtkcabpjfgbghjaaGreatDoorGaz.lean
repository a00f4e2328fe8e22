/-
  The walk of the reference's Length.
-/
import Derived.Test.YtkcabpjfgbghjaaGreatDoorGac
import Derived.Test.YtkcabpjfgbghjaaGreatDoorGay
import Derived.Deep.Cut
import Derived.Deep.CutRange
import Derived.Deep.DeepCutAuto
set_option maxHeartbeats 16000000
set_option maxRecDepth 100000
namespace Go.Proofs.YtkcabpjfgbghjaaGreatDoor
open Go.RowKit
theorem digit_is (s : ByteArray) (hs : s.size <= maxLen) (a : Int) (i : Nat) (b : Bool) (ha : a = i) (hb : Fx.isD (Fx.at' s.data.toList i) = b) :
 Hid (∀ w : World, Calls Tryz.prog 174 #[.string s, .int .i64 a] w fun e w' => e = .returned (.bool b) /\ w = w') := by
 subst ha hb
 exact fun w => digit_any s i w hs (by omega)
inductive WayG (s : ByteArray) (k j : Nat) : Prop
 | plus (h : k < s.size) (hb : ((s[k].toNat : Int) == 43) = true) (hj : j = k + 1)
 | minus (h : k < s.size) (hb : ((s[k].toNat : Int) == 43) = false) (hc : ((s[k].toNat : Int) == 45) = true) (hj : j = k + 1)
 | other (h : k < s.size) (hb : ((s[k].toNat : Int) == 43) = false) (hc : ((s[k].toNat : Int) == 45) = false) (hj : j = k)
 | past (h : ¬ k < s.size) (hj : j = k)
theorem wayG (s : ByteArray) (k : Nat) : WayG s k (Fx.sgn s.data.toList k) := by
 have e0 : Fx.sgn s.data.toList k = if (Fx.at' s.data.toList k = 43 ∨ Fx.at' s.data.toList k = 45) then k + 1 else k := rfl
 by_cases h : k < s.size
 ·have hg := Fx.get_at s k h
  rw [hg] at e0
  by_cases hb : s[k] = 43
  ·rw [if_pos (Or.inl hb)] at e0
   exact .plus h (by rw [hb]; rfl) e0
  ·have hb1 : ((s[k].toNat : Int) == 43) = false := by
    rw [Bool.eq_false_iff]; intro hh; exact hb ((byte_eq (n := 43) (by decide)).1 hh)
   by_cases hc : s[k] = 45
   ·rw [if_pos (Or.inr hc)] at e0
    exact .minus h hb1 (by rw [hc]; rfl) e0
   ·have hc1 : ((s[k].toNat : Int) == 45) = false := by
     rw [Bool.eq_false_iff]; intro hh; exact hc ((byte_eq (n := 45) (by decide)).1 hh)
    rw [if_neg (by intro h; exact h.elim hb hc)] at e0
    exact .other h hb1 hc1 e0
 ·rw [Fx.get_past s k (by omega), if_neg (by decide)] at e0
  exact .past h e0
theorem wayG_pos {s : ByteArray} {k j : Nat} (h : WayG s k j) : j = k ∨ j = k + 1 := by cases h <;> omega
theorem rlength_any (s : ByteArray) (w : World) (hs : s.size <= maxLen) :
 Calls Tryz.prog 114 #[.string s] w fun e w' => e = .returned (.int .i64 (Fx.len s.data.toList : Nat)) /\ w = w' := by
 have hs' := hs
 unfold maxLen at hs'
 have b1 := Fx.spS_hi s.data.toList
 have b2 := Fx.spW_hi s.data.toList
 have b3 := Fx.spW_lo s.data.toList
 have b4 := Fx.spD_hi s.data.toList
 have b5 := Fx.spD_lo s.data.toList
 have b6 := Fx.spE_hi s.data.toList
 have b7 := Fx.spE_lo s.data.toList
 have hl : s.data.toList.length = s.size := by simp
 rw [hl] at b1 b2 b4 b6
 have hw := Lib.hid (Fx.wayD s (Fx.spW s.data.toList))
 have he := Lib.hid (Fx.wayE s (Fx.spD s.data.toList))
 have hss : WayG s 0 (Fx.spS s.data.toList) := wayG s 0
 have hgf := wayG s (Fx.spD s.data.toList + 1)
 have gf := Fx.sgn_hi s.data.toList (Fx.spD s.data.toList + 1)
 have e1 : Hid (Fx.dig s.data.toList (Fx.spS s.data.toList) = Fx.spW s.data.toList) := Lib.hid rfl
 have e2 : Fx.spDof s.data.toList (Fx.spW s.data.toList) = Fx.spD s.data.toList := rfl
 have e3 : Fx.spEof s.data.toList (Fx.spD s.data.toList) = Fx.spE s.data.toList := rfl
 have hL : Hid (Fx.len s.data.toList = if Fx.spD s.data.toList = Fx.spS s.data.toList then 0 else Fx.spE s.data.toList) := Lib.hid rfl
 rw [e2] at hw
 rw [e3] at he
 clear e2 e3
 rw [hl] at gf
 generalize Fx.spE s.data.toList = en at *
 generalize Fx.spD s.data.toList = d at *
 generalize Fx.spW s.data.toList = k at *
 generalize Fx.spS s.data.toList = j at *
 clear hl
 have HGF := Lib.hid hgf
 have GF := Lib.hid gf
 clear hgf gf
 go_enter Tryz.func114, Tryz.ntmps114
 go_upto_region 2 with fail
 go_cut [18] (fun s18 wc => s18 = .bool (decide (j = 1)) /\ w = wc)
 case first =>
  rcases hss with ⟨h, hb, rfl⟩ | ⟨h, hb, hc, rfl⟩ | ⟨h, hb, hc, rfl⟩ | ⟨h, rfl⟩
  all_goals (go_wp2_with fail; go_meet; exact ⟨rfl, rfl⟩)
 case rest =>
  obtain ⟨rfl, rfl⟩ := hcut
  have hj : j = 0 ∨ j = 1 := wayG_pos hss
  clear hss
  go_upto_if 18 with fail
  go_cut [3] (fun s3 wc => s3 = .int .i64 j /\ w = wc)
  case first =>
   rcases hj with rfl | rfl
   all_goals (go_wp2_with fail; go_meet; exact ⟨rfl, rfl⟩)
  case rest =>
   obtain ⟨rfl, rfl⟩ := hcut
   go_wp2_with fail
   go_loop [3, 4] (fun s3 s4 => ∃ i : Nat, i <= s.size /\ j <= i /\ s3 = .int .i64 i /\ s4 = .bool (decide (j < i)) /\ Hid (Fx.dig s.data.toList i = k)) (fun s3 _ => s.size - (intOf s3).toNat)
   case atStart => exact ⟨j, b1, Nat.le_refl _, rfl, by simp, e1⟩
   case round =>
    obtain ⟨i, hi, hji, rfl, rfl, H⟩ := hrel
    cases hd : Fx.isD (Fx.at' s.data.toList i)
    ·have hik : i = k := by have := Fx.dig_no _ _ hd; have := H.out; omega
     subst hik
     have C := digit_is s hs i i false rfl hd
     clear hd H
     have hwD := hw.out
     clear hw
     go_upto_region 8 with (go_at_call 174; ((with_reducible refine (C.out _).mono ?_); rintro e w' ⟨rfl, rfl⟩))
     go_cut [39] (fun s39 wc => s39 = .bool (decide (i < d)) /\ w = wc)
     case first =>
      clear C
      rcases hwD with ⟨h, hb, hd, hl⟩ | ⟨h, hb, hd, hk⟩ | ⟨h, hb, hk⟩ | ⟨h, hk⟩
      ·have C1 := digit_is s hs ((i : Int) + 1) (i + 1) true rfl (by rw [Fx.isD_dig]; apply decide_eq_true; omega)
       clear hd
       go_wp2_with (go_at_call 174; ((with_reducible refine (C1.out _).mono ?_); rintro e w' ⟨rfl, rfl⟩))
       go_meet
       exact ⟨by congr 1; symm; apply decide_eq_true; omega, rfl⟩
      ·have C1 := digit_is s hs ((i : Int) + 1) (i + 1) false rfl (by rw [Fx.isD_dig]; apply decide_eq_false; omega)
       subst hk
       clear hd
       go_wp2_with (go_at_call 174; ((with_reducible refine (C1.out _).mono ?_); rintro e w' ⟨rfl, rfl⟩))
       go_meet
       exact ⟨by congr 1; symm; apply decide_eq_false; omega, rfl⟩
      ·subst hk
       go_wp2_with fail
       go_meet
       exact ⟨by congr 1; symm; apply decide_eq_false; omega, rfl⟩
      ·subst hk
       go_wp2_with fail
       go_meet
       exact ⟨by congr 1; symm; apply decide_eq_false; omega, rfl⟩
     case rest =>
      obtain ⟨rfl, rfl⟩ := hcut
      clear C
      have HW := Lib.hid hwD
      clear hwD
      go_upto_if 39 with fail
      go_cut [3, 4] (fun s3 s4 wc => s3 = .int .i64 d /\ s4 = .bool (decide (j < d)) /\ w = wc)
      case first =>
       by_cases hid : i < d
       ·have hb39 : decide (i < d) = true := decide_eq_true hid
        have hjd : decide (j < d) = true := decide_eq_true (by omega)
        have hdd : Hid (Fx.dig s.data.toList (i + 1) = d) := by
         rcases HW.out with ⟨h, hb, hd, hl⟩ | ⟨h, hb, hd, hk⟩ | ⟨h, hb, hk⟩ | ⟨h, hk⟩
         ·exact hd.symm
         all_goals omega
        rw [hb39]
        clear hb39
        go_wp2_with fail
        go_loop [3] (fun s3 => ∃ t : Nat, t <= s.size /\ s3 = .int .i64 t /\ Hid (Fx.dig s.data.toList t = d)) (fun s3 => s.size - (intOf s3).toNat)
        case atStart => exact ⟨i + 1, by omega, by go_num, hdd⟩
        case round =>
         obtain ⟨t, ht, rfl, H⟩ := hrel
         cases hd : Fx.isD (Fx.at' s.data.toList t)
         ·have hik : t = d := by have := Fx.dig_no _ _ hd; have := H.out; omega
          subst hik
          have C := digit_is s hs t t false rfl hd
          clear hd H
          go_wp2_with (go_at_call 174; ((with_reducible refine (C.out _).mono ?_); rintro e w' ⟨rfl, rfl⟩))
          go_meet
          exact ⟨rfl, by rw [hjd], rfl⟩
         ·have C := digit_is s hs t t true rfl hd
          have hlt := Fx.at_lt hd
          rw [show s.data.toList.length = s.size by simp] at hlt
          have HD := Lib.hid hd
          clear hd
          go_wp2_with (go_at_call 174; ((with_reducible refine (C.out _).mono ?_); rintro e w' ⟨rfl, rfl⟩))
          go_round
          case rel => exact ⟨t + 1, by omega, by go_num, Lib.hid (by rw [<- Fx.dig_yes _ _ HD.out]; exact H.out)⟩
          case measure => simp [intOf]; omega
       ·have hb39 : decide (i < d) = false := decide_eq_false hid
        obtain rfl : d = i := by omega
        go_wp2_with fail
        go_meet
        exact ⟨rfl, rfl, rfl⟩
      case rest =>
       obtain ⟨rfl, rfl, rfl⟩ := hcut
       clear HW
       by_cases hdj : d = j
       ·have hz : decide (j < d) = false := decide_eq_false (by omega)
        have hl0 : Fx.len s.data.toList = 0 := by rw [hL.out, if_pos hdj]
        have HL0 := Lib.hid hl0
        clear hl0 hL
        rw [hz]
        go_wp2_with fail
        go_ret
        exact ⟨ret_int (by rw [HL0.out]; rfl), rfl⟩
       ·have hz : decide (j < d) = true := decide_eq_true (by omega)
        have hl0 : Fx.len s.data.toList = en := by rw [hL.out, if_neg hdj]
        have HL0 := Lib.hid hl0
        clear hl0 hL hdj
        rw [hz]
        clear hz
        rcases he.out with ⟨p, pb, pe, pl⟩ | ⟨p, pb, pe, pd⟩ | ⟨p, pb, pc, pd⟩ | ⟨p, pd⟩
        ·have gfd := GF.out (by omega)
         have hgf := HGF.out
         generalize hf : Fx.sgn s.data.toList (d + 1) = f at *
         have HF : Hid (Fx.dig s.data.toList f = en) := Lib.hid pe.symm
         clear hf GF HGF he pe
         have CT := digit_is s hs f f true rfl (by rw [Fx.isD_dig, HF.out]; exact decide_eq_true pl)
         rcases pb with pb | ⟨pb, pc⟩
         all_goals
          go_upto_region 17 with fail
          go_cut [82] (fun s82 wc => s82 = .bool (decide (f = d + 2)) /\ w = wc)
          case first =>
           clear CT
           rcases hgf with ⟨h, hb, rfl⟩ | ⟨h, hb, hc, rfl⟩ | ⟨h, hb, hc, rfl⟩ | ⟨h, rfl⟩
           all_goals (go_wp2_with fail; try (go_meet; exact ⟨by simp, rfl⟩))
          case rest =>
           obtain ⟨rfl, rfl⟩ := hcut
           have hfd := wayG_pos hgf
           clear hgf
           go_upto_if 82 with fail
           go_cut [5] (fun s5 wc => s5 = .int .i64 f /\ w = wc)
           case first =>
            clear CT
            rcases hfd with rfl | rfl
            ·rw [decide_eq_false (by omega)]; go_wp2_with fail; go_meet; exact ⟨by go_num, rfl⟩
            ·rw [decide_eq_true (by omega)]; go_wp2_with fail; go_meet; exact ⟨by go_num, rfl⟩
           case rest =>
            obtain ⟨rfl, rfl⟩ := hcut
            clear hfd
            have HFD := Lib.hid gfd
            go_wp2_with (go_at_call 174; ((with_reducible refine (CT.out _).mono ?_); rintro e w' ⟨rfl, rfl⟩))
            clear CT
            go_loop [5] (fun s3 => ∃ t : Nat, t <= s.size /\ s3 = .int .i64 t /\ Hid (Fx.dig s.data.toList t = en)) (fun s3 => s.size - (intOf s3).toNat)
            case atStart => exact ⟨f, by omega, rfl, HF⟩
            case round =>
             obtain ⟨t, ht, rfl, H⟩ := hrel
             cases hd : Fx.isD (Fx.at' s.data.toList t)
             ·have hik : t = en := by have := Fx.dig_no _ _ hd; have := H.out; omega
              subst hik
              have C := digit_is s hs t t false rfl hd
              clear hd H
              go_wp2_with (go_at_call 174; ((with_reducible refine (C.out _).mono ?_); rintro e w' ⟨rfl, rfl⟩))
              go_ret
              exact ⟨ret_int (by rw [HL0.out]), rfl⟩
             ·have C := digit_is s hs t t true rfl hd
              have hlt := Fx.at_lt hd
              rw [show s.data.toList.length = s.size by simp] at hlt
              have HD := Lib.hid hd
              clear hd
              go_wp2_with (go_at_call 174; ((with_reducible refine (C.out _).mono ?_); rintro e w' ⟨rfl, rfl⟩))
              go_round
              case rel => exact ⟨t + 1, by omega, by go_num, Lib.hid (by rw [<- Fx.dig_yes _ _ HD.out]; exact H.out)⟩
              case measure => simp [intOf]; omega
        ·have gfd := GF.out (by omega)
         have hgf := HGF.out
         generalize hf : Fx.sgn s.data.toList (d + 1) = f at *
         subst pd
         have CT := digit_is s hs f f false rfl (by rw [Fx.isD_dig, pe]; simp)
         clear hf GF HGF he pe
         rcases pb with pb | ⟨pb, pc⟩
         all_goals
          go_upto_region 17 with fail
          go_cut [82] (fun s82 wc => s82 = .bool (decide (f = en + 2)) /\ w = wc)
          case first =>
           clear CT
           rcases hgf with ⟨h, hb, rfl⟩ | ⟨h, hb, hc, rfl⟩ | ⟨h, hb, hc, rfl⟩ | ⟨h, rfl⟩
           all_goals (go_wp2_with fail; try (go_meet; exact ⟨by simp, rfl⟩))
          case rest =>
           obtain ⟨rfl, rfl⟩ := hcut
           have hfd := wayG_pos hgf
           clear hgf
           go_upto_if 82 with fail
           go_cut [5] (fun s5 wc => s5 = .int .i64 f /\ w = wc)
           case first =>
            clear CT
            rcases hfd with rfl | rfl
            ·rw [decide_eq_false (by omega)]; go_wp2_with fail; go_meet; exact ⟨by go_num, rfl⟩
            ·rw [decide_eq_true (by omega)]; go_wp2_with fail; go_meet; exact ⟨by go_num, rfl⟩
           case rest =>
            obtain ⟨rfl, rfl⟩ := hcut
            clear hfd
            go_wp2_with (go_at_call 174; ((with_reducible refine (CT.out _).mono ?_); rintro e w' ⟨rfl, rfl⟩))
            go_ret
            exact ⟨ret_int (by rw [HL0.out]), rfl⟩
        ·subst pd
         go_wp2_with fail
         go_ret
         exact ⟨ret_int (by rw [HL0.out]), rfl⟩
        ·subst pd
         go_wp2_with fail
         go_ret
         exact ⟨ret_int (by rw [HL0.out]), rfl⟩
    ·have C := digit_is s hs i i true rfl hd
     have hlt := Fx.at_lt hd
     rw [show s.data.toList.length = s.size by simp] at hlt
     have HD := Lib.hid hd
     clear hd
     go_wp2_with (go_at_call 174; ((with_reducible refine (C.out _).mono ?_); rintro e w' ⟨rfl, rfl⟩))
     go_round
     case rel => exact ⟨i + 1, by omega, by omega, by go_num, by congr 1; symm; apply decide_eq_true; omega, Lib.hid (by rw [<- Fx.dig_yes _ _ HD.out]; exact H.out)⟩
     case measure => simp [intOf]; omega
end Go.Proofs.YtkcabpjfgbghjaaGreatDoor
