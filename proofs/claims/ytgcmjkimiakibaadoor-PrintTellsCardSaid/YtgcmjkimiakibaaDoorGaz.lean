/-
  The walk of the reference's name.
-/
import Derived.Test.YtgcmjkimiakibaaDoorGay
import Derived.Deep.DeepCutAuto
namespace Go.Proofs.YtgcmjkimiakibaaDoor
open Go.RowKit

namespace Pr
open Ru Tk
theorem l45 {cs : List Int} {k : Nat} (hk : k < cs.length) : cs = [45] ↔ (g cs k = 45 ∧ cs.length = 1) := by
  constructor
  · rintro rfl
    have : k = 0 := by simp at hk; omega
    subst this
    exact ⟨rfl, rfl⟩
  · rintro ⟨h1, h2⟩
    obtain ⟨x, rfl⟩ := List.length_eq_one_iff.1 h2
    have : k = 0 := by simp at hk; omega
    subst this
    have : x = 45 := h1
    rw [this]
theorem must_iff {dim : Bool} {cs : List Int} {k : Nat} (hk : k < cs.length) : must dim cs k = true ↔
    (witB (g cs k) = false ∨ (48 ≤ g cs k ∧ g cs k ≤ 57 ∧ k = 0) ∨ (48 ≤ g cs k ∧ g cs k ≤ 57 ∧ k = 1 ∧ g cs 0 = 45) ∨ (g cs k = 45 ∧ cs.length = 1) ∨ (dim = true ∧ k = 0 ∧ (g cs k = 101 ∨ g cs k = 69))) := by
  unfold must
  rw [Bool.or_eq_true, Bool.or_eq_true, Bool.or_eq_true, Bool.and_eq_true, Bool.and_eq_true, Bool.or_eq_true, Bool.and_eq_true, Bool.and_eq_true, Bool.not_eq_true', decide_eq_true_iff, decide_eq_true_iff, decide_eq_true_iff, decide_eq_true_iff, decide_eq_true_iff, decide_eq_true_iff, l45 hk]
  generalize witB (g cs k) = z
  cases z <;> cases dim <;> simp only [Bool.false_eq_true, reduceCtorEq, false_and, or_false, false_or, true_and, true_or] <;> omega
theorem nT_str {dim : Bool} {cs : List Int} {k : Nat} : str (nmT dim cs (k + 1)) = str (nmT dim cs k) ++ str (piece dim cs k) := by rw [nmT_succ, str_app]
theorem nT_size (dim : Bool) {cs : List Int} (h : ∀ c ∈ cs, Is c) {k : Nat} (hk : k ≤ cs.length) : (str (nmT dim cs k)).size ≤ 8 * k := by
  rw [str_size]; exact nmT_len dim cs h k hk
theorem piece_size (dim : Bool) {cs : List Int} {k : Nat} (h : Is (g cs k)) : (str (piece dim cs k)).size ≤ 8 := by rw [str_size]; exact piece_len dim cs k h
end Pr
set_option maxHeartbeats 16000000 in
set_option maxRecDepth 100000 in
theorem name_any (dim : Bool) (cs : List Int) (h : ∀ c ∈ cs, Ru.Is c) (hm : cs.length ≤ 10000) (A : Option Addr) (cap : Nat) (w : World) (hs : Bs w w.heap.size .i64 A cs) :
    Calls Tryd.prog 22 #[.slice A cs.length cap, .bool dim] w (Sg (Tk.str (Pr.nm dim cs)) w) := by
  have H := Lib.hid h
  have HS := Lib.hid hs
  clear h hs
  go_enter Tryd.func22, Tryd.ntmps22
  go_wp2_with fail
  go_loopw [5, 6] (fun v3 v4 wr => ∃ k : Nat, k ≤ cs.length ∧ v4 = .int .i64 k ∧ v3 = .string (Tk.str (Pr.nmT dim cs k)) ∧ Hid (Below w.heap.size w wr)) (fun _ v4 _ => cs.length - (RowKit.intOf v4).toNat)
  case atStart => exact ⟨0, Nat.zero_le _, rfl, rfl, Lib.hid (Below.refl _ _)⟩
  case round =>
    obtain ⟨k, hk, rfl, rfl, HB⟩ := hrel
    by_cases hlt : k < cs.length
    · have HSr := Lib.hid (HS.out.next HB.out)
      obtain ⟨bb, off, rfl, hbb, hp⟩ := HSr.out (by omega)
      have hc := hp k hlt
      have hc0 := hp 0 (by omega)
      rw [Nat.add_zero] at hc0
      clear hp
      have HIs := Lib.hid (H.out _ (by rw [Ru.g_eq hlt]; exact List.getElem_mem _ : Ru.g cs k ∈ cs))
      have HT := Lib.hid (Pr.nT_str (dim := dim) (cs := cs) (k := k))
      have hz1 := Pr.nT_size dim H.out hk
      have hz2 := Pr.piece_size dim HIs.out
      have HQ : Hid (Pr.piece dim cs k = if Pr.must dim cs k = true then Pr.escC (Ru.g cs k) else [Ru.g cs k]) := Lib.hid rfl
      have HM := Lib.hid (Pr.must_iff (dim := dim) hlt)
      obtain ⟨P, hP⟩ : ∃ P, P = Pr.piece dim cs k := ⟨_, rfl⟩
      rw [← hP] at HT hz2 HQ
      obtain ⟨bm, hbm⟩ : ∃ bm, bm = Pr.must dim cs k := ⟨_, rfl⟩
      rw [← hbm] at HM HQ
      clear hP hbm
      have hcI := Pr.Is_lt HIs.out
      obtain ⟨c, hcc⟩ : ∃ c, c = Ru.g cs k := ⟨_, rfl⟩
      rw [← hcc] at HIs HQ HM hc hcI
      obtain ⟨g0, hg0⟩ : ∃ g0, g0 = Ru.g cs 0 := ⟨_, rfl⟩
      rw [← hg0] at HM hc0
      have HGG : Hid (k = 0 → g0 = c) := Lib.hid (fun e => by rw [hg0, hcc, e])
      clear hcc hg0
      have CW := Lib.hid (fun W => rwithin_any c W)
      generalize Ru.witB c = wit at *
      have HX : Hid (Tk.str (Pr.nmT dim cs k) = Tk.str (Pr.nmT dim cs k)) := Lib.hid rfl
      generalize Tk.str (Pr.nmT dim cs k) = X at *
      clear HX
      go_upto_region 6 with fail
      obtain ⟨dg, hdg⟩ : ∃ dg, dg = decide (48 ≤ c ∧ c ≤ 57) := ⟨_, rfl⟩
      go_cut [8] (fun s8 wc => s8 = .bool dg ∧ wr = wc)
      case first =>
        clear hz1 hz2 HT HQ HM
        by_cases q1 : 48 ≤ c
        · by_cases q2 : c ≤ 57
          · have hd1 : decide (48 ≤ c) = true := decide_eq_true q1
            have hd2 : decide (c ≤ 57) = true := decide_eq_true q2
            have : dg = true := by rw [hdg]; exact decide_eq_true ⟨q1, q2⟩
            subst this
            clear hdg
            go_wp2_with fail
            go_meet
            exact ⟨rfl, rfl⟩
          · have hd1 : decide (48 ≤ c) = true := decide_eq_true q1
            have hd2 : decide (c ≤ 57) = false := decide_eq_false q2
            have : dg = false := by rw [hdg]; exact decide_eq_false (fun h => q2 h.2)
            subst this
            clear hdg
            go_wp2_with fail
            go_meet
            exact ⟨rfl, rfl⟩
        · have hd1 : decide (48 ≤ c) = false := decide_eq_false q1
          have : dg = false := by rw [hdg]; exact decide_eq_false (fun h => q1 h.1)
          subst this
          clear hdg
          go_wp2_with fail
          go_meet
          exact ⟨rfl, rfl⟩
      case rest =>
       obtain ⟨rfl, rfl⟩ := hcut
       have HDG := Lib.hid hdg
       clear hdg
       go_upto_region 7 with fail
       go_cut [71] (fun s71 wc => s71 = .bool bm ∧ wr = wc)
       case first =>
        clear hz1 hz2 HT HQ
        cases wit
        · skip
          have hv : bm = true := by
            exact HM.out.2 (by simp <;> omega)
          subst hv
          clear HM
          try clear qk0
          try clear qk1
          try clear qg45
          try clear qc45
          try clear ql1
          try clear qc101
          try clear qc69
          go_wp2_with (first | (go_at_call 48; ((with_reducible refine (CW.out _).mono ?_); rintro e w1 ⟨rfl, rfl⟩)))
          go_meet
          exact ⟨rfl, rfl⟩
        · skip
          cases dg
          · have hnd : ¬ (48 ≤ c ∧ c ≤ 57) := fun h => by have hdg := HDG.out; rw [decide_eq_true h] at hdg; cases hdg
            by_cases qc45 : c = 45
            · skip
              have ec45 : (c == 45) = true := Ru.eq_t qc45
              by_cases ql1 : (cs.length : Int) = 1
              · skip
                have el1 : ((cs.length : Int) == 1) = true := Ru.eq_t ql1
                have hv : bm = true := by
                  exact HM.out.2 (by simp <;> omega)
                subst hv
                clear HM
                try clear qk0
                try clear qk1
                try clear qg45
                try clear qc45
                try clear ql1
                try clear qc101
                try clear qc69
                go_wp2_with (first | (go_at_call 48; ((with_reducible refine (CW.out _).mono ?_); rintro e w1 ⟨rfl, rfl⟩)))
                go_meet
                exact ⟨rfl, rfl⟩
              · skip
                have el1 : ((cs.length : Int) == 1) = false := Ru.eq_f ql1
                have ec101 : (c == 101) = false := Ru.eq_f (by omega)
                have ec69 : (c == 69) = false := Ru.eq_f (by omega)
                cases dim
                · skip
                  have hv : bm = false := by
                    cases bm with | false => rfl | true => exact absurd (HM.out.1 rfl) (by simp <;> omega)
                  subst hv
                  clear HM
                  try clear qk0
                  try clear qk1
                  try clear qg45
                  try clear qc45
                  try clear ql1
                  try clear qc101
                  try clear qc69
                  go_wp2_with (first | (go_at_call 48; ((with_reducible refine (CW.out _).mono ?_); rintro e w1 ⟨rfl, rfl⟩)))
                  go_meet
                  exact ⟨rfl, rfl⟩
                · skip
                  by_cases qk0 : (k : Int) = 0
                  · skip
                    have ek0 : ((k : Int) == 0) = true := Ru.eq_t qk0
                    have hv : bm = false := by
                      cases bm with | false => rfl | true => exact absurd (HM.out.1 rfl) (by simp <;> omega)
                    subst hv
                    clear HM
                    try clear qk0
                    try clear qk1
                    try clear qg45
                    try clear qc45
                    try clear ql1
                    try clear qc101
                    try clear qc69
                    go_wp2_with (first | (go_at_call 48; ((with_reducible refine (CW.out _).mono ?_); rintro e w1 ⟨rfl, rfl⟩)))
                    go_meet
                    exact ⟨rfl, rfl⟩
                  · skip
                    have ek0 : ((k : Int) == 0) = false := Ru.eq_f qk0
                    have hv : bm = false := by
                      cases bm with | false => rfl | true => exact absurd (HM.out.1 rfl) (by simp <;> omega)
                    subst hv
                    clear HM
                    try clear qk0
                    try clear qk1
                    try clear qg45
                    try clear qc45
                    try clear ql1
                    try clear qc101
                    try clear qc69
                    go_wp2_with (first | (go_at_call 48; ((with_reducible refine (CW.out _).mono ?_); rintro e w1 ⟨rfl, rfl⟩)))
                    go_meet
                    exact ⟨rfl, rfl⟩
            · skip
              have ec45 : (c == 45) = false := Ru.eq_f qc45
              cases dim
              · skip
                have hv : bm = false := by
                  cases bm with | false => rfl | true => exact absurd (HM.out.1 rfl) (by simp <;> omega)
                subst hv
                clear HM
                try clear qk0
                try clear qk1
                try clear qg45
                try clear qc45
                try clear ql1
                try clear qc101
                try clear qc69
                go_wp2_with (first | (go_at_call 48; ((with_reducible refine (CW.out _).mono ?_); rintro e w1 ⟨rfl, rfl⟩)))
                go_meet
                exact ⟨rfl, rfl⟩
              · skip
                by_cases qk0 : (k : Int) = 0
                · skip
                  have ek0 : ((k : Int) == 0) = true := Ru.eq_t qk0
                  by_cases qc101 : c = 101
                  · skip
                    have ec101 : (c == 101) = true := Ru.eq_t qc101
                    have hv : bm = true := by
                      exact HM.out.2 (by simp <;> omega)
                    subst hv
                    clear HM
                    try clear qk0
                    try clear qk1
                    try clear qg45
                    try clear qc45
                    try clear ql1
                    try clear qc101
                    try clear qc69
                    go_wp2_with (first | (go_at_call 48; ((with_reducible refine (CW.out _).mono ?_); rintro e w1 ⟨rfl, rfl⟩)))
                    go_meet
                    exact ⟨rfl, rfl⟩
                  · skip
                    have ec101 : (c == 101) = false := Ru.eq_f qc101
                    by_cases qc69 : c = 69
                    · skip
                      have ec69 : (c == 69) = true := Ru.eq_t qc69
                      have hv : bm = true := by
                        exact HM.out.2 (by simp <;> omega)
                      subst hv
                      clear HM
                      try clear qk0
                      try clear qk1
                      try clear qg45
                      try clear qc45
                      try clear ql1
                      try clear qc101
                      try clear qc69
                      go_wp2_with (first | (go_at_call 48; ((with_reducible refine (CW.out _).mono ?_); rintro e w1 ⟨rfl, rfl⟩)))
                      go_meet
                      exact ⟨rfl, rfl⟩
                    · skip
                      have ec69 : (c == 69) = false := Ru.eq_f qc69
                      have hv : bm = false := by
                        cases bm with | false => rfl | true => exact absurd (HM.out.1 rfl) (by simp <;> omega)
                      subst hv
                      clear HM
                      try clear qk0
                      try clear qk1
                      try clear qg45
                      try clear qc45
                      try clear ql1
                      try clear qc101
                      try clear qc69
                      go_wp2_with (first | (go_at_call 48; ((with_reducible refine (CW.out _).mono ?_); rintro e w1 ⟨rfl, rfl⟩)))
                      go_meet
                      exact ⟨rfl, rfl⟩
                · skip
                  have ek0 : ((k : Int) == 0) = false := Ru.eq_f qk0
                  have hv : bm = false := by
                    cases bm with | false => rfl | true => exact absurd (HM.out.1 rfl) (by simp <;> omega)
                  subst hv
                  clear HM
                  try clear qk0
                  try clear qk1
                  try clear qg45
                  try clear qc45
                  try clear ql1
                  try clear qc101
                  try clear qc69
                  go_wp2_with (first | (go_at_call 48; ((with_reducible refine (CW.out _).mono ?_); rintro e w1 ⟨rfl, rfl⟩)))
                  go_meet
                  exact ⟨rfl, rfl⟩
          · have hyd : 48 ≤ c ∧ c ≤ 57 := of_decide_eq_true HDG.out.symm
            by_cases qk0 : (k : Int) = 0
            · skip
              have ek0 : ((k : Int) == 0) = true := Ru.eq_t qk0
              have hv : bm = true := by
                exact HM.out.2 (by simp <;> omega)
              subst hv
              clear HM
              try clear qk0
              try clear qk1
              try clear qg45
              try clear qc45
              try clear ql1
              try clear qc101
              try clear qc69
              go_wp2_with (first | (go_at_call 48; ((with_reducible refine (CW.out _).mono ?_); rintro e w1 ⟨rfl, rfl⟩)))
              go_meet
              exact ⟨rfl, rfl⟩
            · skip
              have ek0 : ((k : Int) == 0) = false := Ru.eq_f qk0
              by_cases qk1 : (k : Int) = 1
              · skip
                have ek1 : ((k : Int) == 1) = true := Ru.eq_t qk1
                by_cases qg45 : g0 = 45
                · skip
                  have eg45 : (g0 == 45) = true := Ru.eq_t qg45
                  have hv : bm = true := by
                    exact HM.out.2 (by simp <;> omega)
                  subst hv
                  clear HM
                  try clear qk0
                  try clear qk1
                  try clear qg45
                  try clear qc45
                  try clear ql1
                  try clear qc101
                  try clear qc69
                  go_wp2_with (first | (go_at_call 48; ((with_reducible refine (CW.out _).mono ?_); rintro e w1 ⟨rfl, rfl⟩)))
                  go_meet
                  exact ⟨rfl, rfl⟩
                · skip
                  have eg45 : (g0 == 45) = false := Ru.eq_f qg45
                  have ec45 : (c == 45) = false := Ru.eq_f (by omega)
                  cases dim
                  · skip
                    have hv : bm = false := by
                      cases bm with | false => rfl | true => exact absurd (HM.out.1 rfl) (by simp <;> omega)
                    subst hv
                    clear HM
                    try clear qk0
                    try clear qk1
                    try clear qg45
                    try clear qc45
                    try clear ql1
                    try clear qc101
                    try clear qc69
                    go_wp2_with (first | (go_at_call 48; ((with_reducible refine (CW.out _).mono ?_); rintro e w1 ⟨rfl, rfl⟩)))
                    go_meet
                    exact ⟨rfl, rfl⟩
                  · skip
                    have hv : bm = false := by
                      cases bm with | false => rfl | true => exact absurd (HM.out.1 rfl) (by simp <;> omega)
                    subst hv
                    clear HM
                    try clear qk0
                    try clear qk1
                    try clear qg45
                    try clear qc45
                    try clear ql1
                    try clear qc101
                    try clear qc69
                    go_wp2_with (first | (go_at_call 48; ((with_reducible refine (CW.out _).mono ?_); rintro e w1 ⟨rfl, rfl⟩)))
                    go_meet
                    exact ⟨rfl, rfl⟩
              · skip
                have ek1 : ((k : Int) == 1) = false := Ru.eq_f qk1
                have ec45 : (c == 45) = false := Ru.eq_f (by omega)
                cases dim
                · skip
                  have hv : bm = false := by
                    cases bm with | false => rfl | true => exact absurd (HM.out.1 rfl) (by simp <;> omega)
                  subst hv
                  clear HM
                  try clear qk0
                  try clear qk1
                  try clear qg45
                  try clear qc45
                  try clear ql1
                  try clear qc101
                  try clear qc69
                  go_wp2_with (first | (go_at_call 48; ((with_reducible refine (CW.out _).mono ?_); rintro e w1 ⟨rfl, rfl⟩)))
                  go_meet
                  exact ⟨rfl, rfl⟩
                · skip
                  have hv : bm = false := by
                    cases bm with | false => rfl | true => exact absurd (HM.out.1 rfl) (by simp <;> omega)
                  subst hv
                  clear HM
                  try clear qk0
                  try clear qk1
                  try clear qg45
                  try clear qc45
                  try clear ql1
                  try clear qc101
                  try clear qc69
                  go_wp2_with (first | (go_at_call 48; ((with_reducible refine (CW.out _).mono ?_); rintro e w1 ⟨rfl, rfl⟩)))
                  go_meet
                  exact ⟨rfl, rfl⟩
       case rest =>
        obtain ⟨rfl, rfl⟩ := hcut
        cases bm
        · have e : P = [c] := by rw [HQ.out, if_neg (by simp)]
          rw [e] at hz2 HT
          have CE := Lib.hid (fun W => rletter_any c HIs.out W)
          clear HQ e
          generalize Tk.str [c] = Y at *
          go_wp2_with (first | (go_at_call 21; ((with_reducible refine (CE.out _).mono ?_); rintro e w3 ⟨rfl, b3⟩; have HB3 := Lib.hid b3; clear b3)))
          go_roundw
          case rel => exact ⟨k + 1, hlt, rfl, by rw [HT.out], Lib.hid (below_next HB.out HB3.out)⟩
          case measure => show cs.length - (k + 1) < cs.length - k; omega
        · have e : P = Pr.escC c := by rw [HQ.out, if_pos rfl]
          rw [e] at hz2 HT
          have CE := Lib.hid (fun W => rescape_any c (Pr.Is_lt HIs.out).1 (Pr.Is_lt HIs.out).2 W)
          clear HQ e
          generalize Tk.str (Pr.escC c) = Y at *
          go_wp2_with (first | (go_at_call 49; ((with_reducible refine (CE.out _).mono ?_); rintro e w3 ⟨rfl, b3⟩; have HB3 := Lib.hid b3; clear b3)))
          go_roundw
          case rel => exact ⟨k + 1, hlt, rfl, by rw [HT.out], Lib.hid (below_next HB.out HB3.out)⟩
          case measure => show cs.length - (k + 1) < cs.length - k; omega
    · obtain rfl : k = cs.length := by omega
      have he : Pr.nmT dim cs cs.length = Pr.nm dim cs := rfl
      rw [he]
      go_wp2_with fail
      go_ret
      exact ⟨rfl, HB.out⟩
end Go.Proofs.YtgcmjkimiakibaaDoor
