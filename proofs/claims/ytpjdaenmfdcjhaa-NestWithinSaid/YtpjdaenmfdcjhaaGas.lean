/-
  The walk of the law NestWithin.
-/
import Derived.Test.YtpjdaenmfdcjhaaGap
import Derived.Test.YtpjdaenmfdcjhaaGae
import Derived.Deep.QuietTactic
import Derived.BigQuiet
import Derived.LoopTactic
namespace Go.Proofs.Ytpjdaenmfdcjhaa
open Go.RowKit

set_option maxHeartbeats 16000000 in
set_option maxRecDepth 100000 in
theorem nwithin_any (N : NestC) (us : List Tk.Tok) (hn : us.length ≤ 9223372036854775807) (A : Option Addr) (cap : Nat) (hc : us.length ≤ cap) (w : World) (h : Ts w w.heap.size A us) :
    Calls Try.prog 6 #[.slice A us.length cap] w (Bo true w) := by
  have CA : Hid (∀ W, Calls Try.prog 11 #[] W (Bo true W)) := Lib.hid (lawake_any N)
  by_cases hF : Pr.Fair us
  · have CF := Lib.hid (few_any us hn true (by simp [hF]) A cap w h)
    have CE := Lib.hid (N.ends us (by have := hF.1; omega) A cap hc w h)
    have hel := Ns.ends_len us
    have hm := hF.1
    by_cases hd : Ns.deep us
    · have CE2 := Lib.hid (CE.out.mono fun e w' h => h.2 hd)
      clear CE hd hF h hel
      go_enter Try.func6, Try.ntmps6
      go_wp2_with (first | (go_at_call 10; ((with_reducible refine (CF.out).mono ?_); rintro e w1 ⟨rfl, rfl⟩)) | (go_at_call 12; ((with_reducible refine (CE2.out).mono ?_); rintro e w2 ⟨rfl, b2⟩; have HB2 := Lib.hid b2; clear b2)) | (go_at_call 11; ((with_reducible refine (CA.out _).mono ?_); rintro e w5 ⟨rfl, b5⟩; have HB5 := Lib.hid (below_next HB2.out b5); clear b5)))
      go_ret
      exact ⟨rfl, HB5.out⟩
    · have CE2 : Hid (Calls Try.prog 12 #[.slice A us.length cap] w (EndsL (Ns.ends us) w)) := Lib.hid (CE.out.mono fun e w' h => ends_rd (h.1 hd))
      have HC : Hid (∀ a, a < us.length → (Ru.g (Ns.ends us) a = -1 ∨ ((a : Int) < Ru.g (Ns.ends us) a ∧ Ru.g (Ns.ends us) a ≤ us.length))) := Lib.hid fun a ha => Ns.ends_cases ha
      have H1 : Hid (∀ a b, a < us.length → b < us.length → ¬ (0 ≤ Ru.g (Ns.ends us) a ∧ 0 ≤ Ru.g (Ns.ends us) b ∧ a < b ∧ (b : Int) < Ru.g (Ns.ends us) a ∧ Ru.g (Ns.ends us) a < Ru.g (Ns.ends us) b)) := Lib.hid fun a b ha hb => Ns.within1 ha hb
      have H2 : Hid (∀ a b, a < us.length → b < us.length → ¬ (a ≠ b ∧ 0 ≤ Ru.g (Ns.ends us) a ∧ Ru.g (Ns.ends us) a < us.length ∧ Ru.g (Ns.ends us) a = Ru.g (Ns.ends us) b)) := Lib.hid fun a b ha hb => Ns.within2 ha hb
      have HEL := Lib.hid hel
      clear CE hd hF h hel
      generalize Ns.ends us = es at *
      go_enter Try.func6, Try.ntmps6
      go_wp2_with (first | (go_at_call 10; ((with_reducible refine (CF.out).mono ?_); rintro e w1 ⟨rfl, rfl⟩)) | (go_at_call 12; ((with_reducible refine (CE2.out).mono ?_); rintro e w2 ⟨A2, c2, rfl, hc2, B2, b2⟩; have HB2 := Lib.hid b2; have HS2 := Lib.hid B2; clear b2 B2)))
      go_loopw [26] (fun v26 wr => ∃ a : Nat, a ≤ us.length ∧ v26 = .int .i64 a ∧ Hid (Below w.heap.size w wr) ∧ Hid (Bs wr wr.heap.size .i64 A2 es)) (fun v26 _ => us.length - (RowKit.intOf v26).toNat)
      case atStart => exact ⟨0, Nat.zero_le _, rfl, HB2, HS2⟩
      case round =>
        obtain ⟨a, ha, rfl, HB, HS⟩ := hrel
        by_cases hlt : a < us.length
        · have hae : a < es.length := by rw [HEL.out]; exact hlt
          obtain ⟨bb, off, rfl, hbb, hp⟩ := HS.out (by omega)
          have p0 := hp a hae
          have HP := Lib.hid hp
          have H1a := Lib.hid (fun b hb => H1.out a b hlt hb)
          have H2a := Lib.hid (fun b hb => H2.out a b hlt hb)
          have HCa := Lib.hid (HC.out a hlt)
          have hc0 := HCa.out
          obtain ⟨x, hxx⟩ : ∃ x, Ru.g es a = x := ⟨_, rfl⟩
          have HXX := Lib.hid hxx
          rw [hxx] at p0 hc0
          clear hp hxx
          by_cases hx1 : x = -1
          · have n1 : (x != -1) = false := Ru.ne_f hx1
            have hx1' : x ≤ -1 := by omega
            clear hc0 hx1
            go_wp2_with fail
            clear n1 p0
            go_loopw [53] (fun v53 wi => ∃ b : Nat, b ≤ us.length ∧ v53 = .int .i64 b ∧ Hid (Below wr.heap.size wr wi)) (fun v53 _ => us.length - (RowKit.intOf v53).toNat)
            case atStart => exact ⟨0, Nat.zero_le _, rfl, Lib.hid (Below.refl _ _)⟩
            case round =>
              obtain ⟨b, hb, rfl, HBi⟩ := hrel
              by_cases hlb : b < us.length
              · have hbe : b < es.length := by rw [HEL.out]; exact hlb
                have hq1 := H1a.out b hlb
                have hq2 := H2a.out b hlb
                have hqa := HCa.out
                have p0 := (HBi.out.cell (p := ⟨bb, off + a, none⟩) hbb).trans (HP.out a hae)
                have q0 := (HBi.out.cell (p := ⟨bb, off + b, none⟩) hbb).trans (HP.out b hbe)
                generalize hyy : Ru.g es b = y at *
                rw [HXX.out] at p0 hq1 hq2 hqa
                clear hyy
                have hab : a ≠ b ∨ x = y := by
                  by_cases e : a = b
                  · right
                    subst e
                    have h := p0.symm.trans q0
                    injection h with h
                    injection h
                  · exact .inl e
                have HAB := Lib.hid hab
                have HQ1 := Lib.hid hq1
                have HQ2 := Lib.hid hq2
                have HQA := Lib.hid hqa
                clear hab hq1 hq2 hqa
                go_wp2_with fail
                simp only [List.append_eq, List.cons_append, List.nil_append]
                have hab := HAB.out
                have hq1 := HQ1.out
                have hq2 := HQ2.out
                have hqa := HQA.out
                by_cases c1 : 0 ≤ x
                · by_cases c2 : 0 ≤ y
                  · by_cases c3 : a < b
                    · by_cases c4 : (b : Int) < x
                      · by_cases c7 : x < (us.length : Int)
                        · have e1 : decide (0 ≤ x) = true := decide_eq_true (by omega)
                          have e2 : decide (0 ≤ y) = true := decide_eq_true (by omega)
                          have e3 : decide (a < b) = true := decide_eq_true (by omega)
                          have e4 : decide ((b : Int) < x) = true := decide_eq_true (by omega)
                          have e5 : decide (x < y) = false := decide_eq_false (by omega)
                          have e6 : ((a : Int) != (b : Int)) = true := Ru.ne_t (by omega)
                          have e6b : (a != b) = true := by simp; omega
                          have e7 : decide (x < (us.length : Int)) = true := decide_eq_true (by omega)
                          have e8 : (x == y) = false := beq_false_of_ne (by omega)
                          clear hq1 hq2 hqa
                          try clear hab
                          try clear c6
                          go_quiet (fail)
                          go_wp2_with fail
                          go_roundw
                          case rel => exact ⟨b + 1, by omega, by go_num, Lib.hid (below_drewN HBi.out _)⟩
                          case measure => simp [RowKit.intOf]; omega
                        · have e1 : decide (0 ≤ x) = true := decide_eq_true (by omega)
                          have e2 : decide (0 ≤ y) = true := decide_eq_true (by omega)
                          have e3 : decide (a < b) = true := decide_eq_true (by omega)
                          have e4 : decide ((b : Int) < x) = true := decide_eq_true (by omega)
                          have e5 : decide (x < y) = false := decide_eq_false (by omega)
                          have e6 : ((a : Int) != (b : Int)) = true := Ru.ne_t (by omega)
                          have e6b : (a != b) = true := by simp; omega
                          have e7 : decide (x < (us.length : Int)) = false := decide_eq_false (by omega)
                          clear hq1 hq2 hqa
                          try clear hab
                          try clear c6
                          go_quiet (fail)
                          go_wp2_with fail
                          go_roundw
                          case rel => exact ⟨b + 1, by omega, by go_num, Lib.hid (below_drewN HBi.out _)⟩
                          case measure => simp [RowKit.intOf]; omega
                      · by_cases c7 : x < (us.length : Int)
                        · have e1 : decide (0 ≤ x) = true := decide_eq_true (by omega)
                          have e2 : decide (0 ≤ y) = true := decide_eq_true (by omega)
                          have e3 : decide (a < b) = true := decide_eq_true (by omega)
                          have e4 : decide ((b : Int) < x) = false := decide_eq_false (by omega)
                          have e6 : ((a : Int) != (b : Int)) = true := Ru.ne_t (by omega)
                          have e6b : (a != b) = true := by simp; omega
                          have e7 : decide (x < (us.length : Int)) = true := decide_eq_true (by omega)
                          have e8 : (x == y) = false := beq_false_of_ne (by omega)
                          clear hq1 hq2 hqa
                          try clear hab
                          try clear c6
                          go_quiet (fail)
                          go_wp2_with fail
                          go_roundw
                          case rel => exact ⟨b + 1, by omega, by go_num, Lib.hid (below_drewN HBi.out _)⟩
                          case measure => simp [RowKit.intOf]; omega
                        · have e1 : decide (0 ≤ x) = true := decide_eq_true (by omega)
                          have e2 : decide (0 ≤ y) = true := decide_eq_true (by omega)
                          have e3 : decide (a < b) = true := decide_eq_true (by omega)
                          have e4 : decide ((b : Int) < x) = false := decide_eq_false (by omega)
                          have e6 : ((a : Int) != (b : Int)) = true := Ru.ne_t (by omega)
                          have e6b : (a != b) = true := by simp; omega
                          have e7 : decide (x < (us.length : Int)) = false := decide_eq_false (by omega)
                          clear hq1 hq2 hqa
                          try clear hab
                          try clear c6
                          go_quiet (fail)
                          go_wp2_with fail
                          go_roundw
                          case rel => exact ⟨b + 1, by omega, by go_num, Lib.hid (below_drewN HBi.out _)⟩
                          case measure => simp [RowKit.intOf]; omega
                    · by_cases c6 : a = b
                      · have hab2 : x = y := by omega
                        subst c6
                        subst hab2
                        clear q0 hab
                        try clear c3
                        try clear c2
                        have e3 : decide (a < a) = false := decide_eq_false (by omega)
                        have e1 : decide (0 ≤ x) = true := decide_eq_true (by omega)
                        clear hq1 hq2 hqa
                        try clear hab
                        try clear c6
                        go_quiet (fail)
                        go_wp2_with fail
                        go_roundw
                        case rel => exact ⟨a + 1, by omega, by go_num, Lib.hid (below_drewN HBi.out _)⟩
                        case measure => simp [RowKit.intOf]; omega
                      · by_cases c7 : x < (us.length : Int)
                        · have e1 : decide (0 ≤ x) = true := decide_eq_true (by omega)
                          have e2 : decide (0 ≤ y) = true := decide_eq_true (by omega)
                          have e3 : decide (a < b) = false := decide_eq_false (by omega)
                          have e6 : ((a : Int) != (b : Int)) = true := Ru.ne_t (by omega)
                          have e6b : (a != b) = true := by simp; omega
                          have e7 : decide (x < (us.length : Int)) = true := decide_eq_true (by omega)
                          have e8 : (x == y) = false := beq_false_of_ne (by omega)
                          clear hq1 hq2 hqa
                          try clear hab
                          try clear c6
                          go_quiet (fail)
                          go_wp2_with fail
                          go_roundw
                          case rel => exact ⟨b + 1, by omega, by go_num, Lib.hid (below_drewN HBi.out _)⟩
                          case measure => simp [RowKit.intOf]; omega
                        · have e1 : decide (0 ≤ x) = true := decide_eq_true (by omega)
                          have e2 : decide (0 ≤ y) = true := decide_eq_true (by omega)
                          have e3 : decide (a < b) = false := decide_eq_false (by omega)
                          have e6 : ((a : Int) != (b : Int)) = true := Ru.ne_t (by omega)
                          have e6b : (a != b) = true := by simp; omega
                          have e7 : decide (x < (us.length : Int)) = false := decide_eq_false (by omega)
                          clear hq1 hq2 hqa
                          try clear hab
                          try clear c6
                          go_quiet (fail)
                          go_wp2_with fail
                          go_roundw
                          case rel => exact ⟨b + 1, by omega, by go_num, Lib.hid (below_drewN HBi.out _)⟩
                          case measure => simp [RowKit.intOf]; omega
                  · by_cases c7 : x < (us.length : Int)
                    · have e1 : decide (0 ≤ x) = true := decide_eq_true (by omega)
                      have e2 : decide (0 ≤ y) = false := decide_eq_false (by omega)
                      have e6 : ((a : Int) != (b : Int)) = true := Ru.ne_t (by omega)
                      have e6b : (a != b) = true := by simp; omega
                      have e7 : decide (x < (us.length : Int)) = true := decide_eq_true (by omega)
                      have e8 : (x == y) = false := beq_false_of_ne (by omega)
                      clear hq1 hq2 hqa
                      try clear hab
                      try clear c6
                      go_quiet (fail)
                      go_wp2_with fail
                      go_roundw
                      case rel => exact ⟨b + 1, by omega, by go_num, Lib.hid (below_drewN HBi.out _)⟩
                      case measure => simp [RowKit.intOf]; omega
                    · have e1 : decide (0 ≤ x) = true := decide_eq_true (by omega)
                      have e2 : decide (0 ≤ y) = false := decide_eq_false (by omega)
                      have e6 : ((a : Int) != (b : Int)) = true := Ru.ne_t (by omega)
                      have e6b : (a != b) = true := by simp; omega
                      have e7 : decide (x < (us.length : Int)) = false := decide_eq_false (by omega)
                      clear hq1 hq2 hqa
                      try clear hab
                      try clear c6
                      go_quiet (fail)
                      go_wp2_with fail
                      go_roundw
                      case rel => exact ⟨b + 1, by omega, by go_num, Lib.hid (below_drewN HBi.out _)⟩
                      case measure => simp [RowKit.intOf]; omega
                · by_cases c6 : a = b
                  · have hab2 : x = y := by omega
                    subst c6
                    subst hab2
                    clear q0 hab
                    try clear c3
                    try clear c2
                    have e3 : decide (a < a) = false := decide_eq_false (by omega)
                    have e1 : decide (0 ≤ x) = false := decide_eq_false (by omega)
                    clear hq1 hq2 hqa
                    try clear hab
                    try clear c6
                    go_quiet (fail)
                    go_wp2_with fail
                    go_roundw
                    case rel => exact ⟨a + 1, by omega, by go_num, Lib.hid (below_drewN HBi.out _)⟩
                    case measure => simp [RowKit.intOf]; omega
                  · have e1 : decide (0 ≤ x) = false := decide_eq_false (by omega)
                    have e6 : ((a : Int) != (b : Int)) = true := Ru.ne_t (by omega)
                    have e6b : (a != b) = true := by simp; omega
                    clear hq1 hq2 hqa
                    try clear hab
                    try clear c6
                    go_quiet (fail)
                    go_wp2_with fail
                    go_roundw
                    case rel => exact ⟨b + 1, by omega, by go_num, Lib.hid (below_drewN HBi.out _)⟩
                    case measure => simp [RowKit.intOf]; omega
              · have hbe : ¬ b < es.length := by rw [HEL.out]; exact hlb
                go_wp2_with fail
                go_roundw
                case rel => exact ⟨a + 1, by omega, by go_num, Lib.hid (below_next HB.out HBi.out), Lib.hid (HS.out.next HBi.out)⟩
                case measure => simp [RowKit.intOf]; omega
          · have n1 : (x != -1) = true := Ru.ne_t hx1
            have n2 : decide (x ≤ (a : Int)) = false := decide_eq_false (by omega)
            have n3 : decide ((us.length : Int) < x) = false := decide_eq_false (by omega)
            clear hc0 hx1
            go_wp2_with fail
            clear n1 n2 n3 p0
            go_loopw [53] (fun v53 wi => ∃ b : Nat, b ≤ us.length ∧ v53 = .int .i64 b ∧ Hid (Below wr.heap.size wr wi)) (fun v53 _ => us.length - (RowKit.intOf v53).toNat)
            case atStart => exact ⟨0, Nat.zero_le _, rfl, Lib.hid (Below.refl _ _)⟩
            case round =>
              obtain ⟨b, hb, rfl, HBi⟩ := hrel
              by_cases hlb : b < us.length
              · have hbe : b < es.length := by rw [HEL.out]; exact hlb
                have hq1 := H1a.out b hlb
                have hq2 := H2a.out b hlb
                have hqa := HCa.out
                have p0 := (HBi.out.cell (p := ⟨bb, off + a, none⟩) hbb).trans (HP.out a hae)
                have q0 := (HBi.out.cell (p := ⟨bb, off + b, none⟩) hbb).trans (HP.out b hbe)
                generalize hyy : Ru.g es b = y at *
                rw [HXX.out] at p0 hq1 hq2 hqa
                clear hyy
                have hab : a ≠ b ∨ x = y := by
                  by_cases e : a = b
                  · right
                    subst e
                    have h := p0.symm.trans q0
                    injection h with h
                    injection h
                  · exact .inl e
                have HAB := Lib.hid hab
                have HQ1 := Lib.hid hq1
                have HQ2 := Lib.hid hq2
                have HQA := Lib.hid hqa
                clear hab hq1 hq2 hqa
                go_wp2_with fail
                simp only [List.append_eq, List.cons_append, List.nil_append]
                have hab := HAB.out
                have hq1 := HQ1.out
                have hq2 := HQ2.out
                have hqa := HQA.out
                by_cases c1 : 0 ≤ x
                · by_cases c2 : 0 ≤ y
                  · by_cases c3 : a < b
                    · by_cases c4 : (b : Int) < x
                      · by_cases c7 : x < (us.length : Int)
                        · have e1 : decide (0 ≤ x) = true := decide_eq_true (by omega)
                          have e2 : decide (0 ≤ y) = true := decide_eq_true (by omega)
                          have e3 : decide (a < b) = true := decide_eq_true (by omega)
                          have e4 : decide ((b : Int) < x) = true := decide_eq_true (by omega)
                          have e5 : decide (x < y) = false := decide_eq_false (by omega)
                          have e6 : ((a : Int) != (b : Int)) = true := Ru.ne_t (by omega)
                          have e6b : (a != b) = true := by simp; omega
                          have e7 : decide (x < (us.length : Int)) = true := decide_eq_true (by omega)
                          have e8 : (x == y) = false := beq_false_of_ne (by omega)
                          clear hq1 hq2 hqa
                          try clear hab
                          try clear c6
                          go_quiet (fail)
                          go_wp2_with fail
                          go_roundw
                          case rel => exact ⟨b + 1, by omega, by go_num, Lib.hid (below_drewN HBi.out _)⟩
                          case measure => simp [RowKit.intOf]; omega
                        · have e1 : decide (0 ≤ x) = true := decide_eq_true (by omega)
                          have e2 : decide (0 ≤ y) = true := decide_eq_true (by omega)
                          have e3 : decide (a < b) = true := decide_eq_true (by omega)
                          have e4 : decide ((b : Int) < x) = true := decide_eq_true (by omega)
                          have e5 : decide (x < y) = false := decide_eq_false (by omega)
                          have e6 : ((a : Int) != (b : Int)) = true := Ru.ne_t (by omega)
                          have e6b : (a != b) = true := by simp; omega
                          have e7 : decide (x < (us.length : Int)) = false := decide_eq_false (by omega)
                          clear hq1 hq2 hqa
                          try clear hab
                          try clear c6
                          go_quiet (fail)
                          go_wp2_with fail
                          go_roundw
                          case rel => exact ⟨b + 1, by omega, by go_num, Lib.hid (below_drewN HBi.out _)⟩
                          case measure => simp [RowKit.intOf]; omega
                      · by_cases c7 : x < (us.length : Int)
                        · have e1 : decide (0 ≤ x) = true := decide_eq_true (by omega)
                          have e2 : decide (0 ≤ y) = true := decide_eq_true (by omega)
                          have e3 : decide (a < b) = true := decide_eq_true (by omega)
                          have e4 : decide ((b : Int) < x) = false := decide_eq_false (by omega)
                          have e6 : ((a : Int) != (b : Int)) = true := Ru.ne_t (by omega)
                          have e6b : (a != b) = true := by simp; omega
                          have e7 : decide (x < (us.length : Int)) = true := decide_eq_true (by omega)
                          have e8 : (x == y) = false := beq_false_of_ne (by omega)
                          clear hq1 hq2 hqa
                          try clear hab
                          try clear c6
                          go_quiet (fail)
                          go_wp2_with fail
                          go_roundw
                          case rel => exact ⟨b + 1, by omega, by go_num, Lib.hid (below_drewN HBi.out _)⟩
                          case measure => simp [RowKit.intOf]; omega
                        · have e1 : decide (0 ≤ x) = true := decide_eq_true (by omega)
                          have e2 : decide (0 ≤ y) = true := decide_eq_true (by omega)
                          have e3 : decide (a < b) = true := decide_eq_true (by omega)
                          have e4 : decide ((b : Int) < x) = false := decide_eq_false (by omega)
                          have e6 : ((a : Int) != (b : Int)) = true := Ru.ne_t (by omega)
                          have e6b : (a != b) = true := by simp; omega
                          have e7 : decide (x < (us.length : Int)) = false := decide_eq_false (by omega)
                          clear hq1 hq2 hqa
                          try clear hab
                          try clear c6
                          go_quiet (fail)
                          go_wp2_with fail
                          go_roundw
                          case rel => exact ⟨b + 1, by omega, by go_num, Lib.hid (below_drewN HBi.out _)⟩
                          case measure => simp [RowKit.intOf]; omega
                    · by_cases c6 : a = b
                      · have hab2 : x = y := by omega
                        subst c6
                        subst hab2
                        clear q0 hab
                        try clear c3
                        try clear c2
                        have e3 : decide (a < a) = false := decide_eq_false (by omega)
                        have e1 : decide (0 ≤ x) = true := decide_eq_true (by omega)
                        clear hq1 hq2 hqa
                        try clear hab
                        try clear c6
                        go_quiet (fail)
                        go_wp2_with fail
                        go_roundw
                        case rel => exact ⟨a + 1, by omega, by go_num, Lib.hid (below_drewN HBi.out _)⟩
                        case measure => simp [RowKit.intOf]; omega
                      · by_cases c7 : x < (us.length : Int)
                        · have e1 : decide (0 ≤ x) = true := decide_eq_true (by omega)
                          have e2 : decide (0 ≤ y) = true := decide_eq_true (by omega)
                          have e3 : decide (a < b) = false := decide_eq_false (by omega)
                          have e6 : ((a : Int) != (b : Int)) = true := Ru.ne_t (by omega)
                          have e6b : (a != b) = true := by simp; omega
                          have e7 : decide (x < (us.length : Int)) = true := decide_eq_true (by omega)
                          have e8 : (x == y) = false := beq_false_of_ne (by omega)
                          clear hq1 hq2 hqa
                          try clear hab
                          try clear c6
                          go_quiet (fail)
                          go_wp2_with fail
                          go_roundw
                          case rel => exact ⟨b + 1, by omega, by go_num, Lib.hid (below_drewN HBi.out _)⟩
                          case measure => simp [RowKit.intOf]; omega
                        · have e1 : decide (0 ≤ x) = true := decide_eq_true (by omega)
                          have e2 : decide (0 ≤ y) = true := decide_eq_true (by omega)
                          have e3 : decide (a < b) = false := decide_eq_false (by omega)
                          have e6 : ((a : Int) != (b : Int)) = true := Ru.ne_t (by omega)
                          have e6b : (a != b) = true := by simp; omega
                          have e7 : decide (x < (us.length : Int)) = false := decide_eq_false (by omega)
                          clear hq1 hq2 hqa
                          try clear hab
                          try clear c6
                          go_quiet (fail)
                          go_wp2_with fail
                          go_roundw
                          case rel => exact ⟨b + 1, by omega, by go_num, Lib.hid (below_drewN HBi.out _)⟩
                          case measure => simp [RowKit.intOf]; omega
                  · by_cases c7 : x < (us.length : Int)
                    · have e1 : decide (0 ≤ x) = true := decide_eq_true (by omega)
                      have e2 : decide (0 ≤ y) = false := decide_eq_false (by omega)
                      have e6 : ((a : Int) != (b : Int)) = true := Ru.ne_t (by omega)
                      have e6b : (a != b) = true := by simp; omega
                      have e7 : decide (x < (us.length : Int)) = true := decide_eq_true (by omega)
                      have e8 : (x == y) = false := beq_false_of_ne (by omega)
                      clear hq1 hq2 hqa
                      try clear hab
                      try clear c6
                      go_quiet (fail)
                      go_wp2_with fail
                      go_roundw
                      case rel => exact ⟨b + 1, by omega, by go_num, Lib.hid (below_drewN HBi.out _)⟩
                      case measure => simp [RowKit.intOf]; omega
                    · have e1 : decide (0 ≤ x) = true := decide_eq_true (by omega)
                      have e2 : decide (0 ≤ y) = false := decide_eq_false (by omega)
                      have e6 : ((a : Int) != (b : Int)) = true := Ru.ne_t (by omega)
                      have e6b : (a != b) = true := by simp; omega
                      have e7 : decide (x < (us.length : Int)) = false := decide_eq_false (by omega)
                      clear hq1 hq2 hqa
                      try clear hab
                      try clear c6
                      go_quiet (fail)
                      go_wp2_with fail
                      go_roundw
                      case rel => exact ⟨b + 1, by omega, by go_num, Lib.hid (below_drewN HBi.out _)⟩
                      case measure => simp [RowKit.intOf]; omega
                · by_cases c6 : a = b
                  · have hab2 : x = y := by omega
                    subst c6
                    subst hab2
                    clear q0 hab
                    try clear c3
                    try clear c2
                    have e3 : decide (a < a) = false := decide_eq_false (by omega)
                    have e1 : decide (0 ≤ x) = false := decide_eq_false (by omega)
                    clear hq1 hq2 hqa
                    try clear hab
                    try clear c6
                    go_quiet (fail)
                    go_wp2_with fail
                    go_roundw
                    case rel => exact ⟨a + 1, by omega, by go_num, Lib.hid (below_drewN HBi.out _)⟩
                    case measure => simp [RowKit.intOf]; omega
                  · have e1 : decide (0 ≤ x) = false := decide_eq_false (by omega)
                    have e6 : ((a : Int) != (b : Int)) = true := Ru.ne_t (by omega)
                    have e6b : (a != b) = true := by simp; omega
                    clear hq1 hq2 hqa
                    try clear hab
                    try clear c6
                    go_quiet (fail)
                    go_wp2_with fail
                    go_roundw
                    case rel => exact ⟨b + 1, by omega, by go_num, Lib.hid (below_drewN HBi.out _)⟩
                    case measure => simp [RowKit.intOf]; omega
              · have hbe : ¬ b < es.length := by rw [HEL.out]; exact hlb
                go_wp2_with fail
                go_roundw
                case rel => exact ⟨a + 1, by omega, by go_num, Lib.hid (below_next HB.out HBi.out), Lib.hid (HS.out.next HBi.out)⟩
                case measure => simp [RowKit.intOf]; omega
        · have hae : ¬ a < es.length := by rw [HEL.out]; exact hlt
          have CW := Lib.hid (CA.out wr)
          go_wp2_with (go_at_call 11; ((with_reducible refine (CW.out).mono ?_); rintro e w5 ⟨rfl, b5⟩; have HB5 := Lib.hid (below_next HB.out b5); clear b5))
          go_ret
          exact ⟨rfl, HB5.out⟩
  · have CF := Lib.hid (few_any us hn false (by simp [hF]) A cap w h)
    clear hF h
    go_enter Try.func6, Try.ntmps6
    go_wp2_with (first | (go_at_call 10; ((with_reducible refine (CF.out).mono ?_); rintro e w1 ⟨rfl, rfl⟩)) | (go_at_call 11; ((with_reducible refine (CA.out _).mono ?_); rintro e w5 ⟨rfl, b5⟩; have HB5 := Lib.hid b5; clear b5)))
    go_ret
    exact ⟨rfl, HB5.out⟩
end Go.Proofs.Ytpjdaenmfdcjhaa
