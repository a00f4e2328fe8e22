/-
  The walk of the law NestDeep.
-/
import Derived.Test.YtpjdaenmfdcjhaaGau
import Derived.Test.YtpjdaenmfdcjhaaGae
import Derived.LoopTactic
import Derived.Laws.NewBlocks
import Derived.IntWalk
namespace Go.Proofs.Ytpjdaenmfdcjhaa
open Go.RowKit

theorem size_next (w : World) (o : Obj) : w.heap.size + 1 = (w.alloc o).heap.size := by simp
set_option maxHeartbeats 16000000 in
set_option maxRecDepth 100000 in
theorem ndeep_any (N : NestC) (n : Int) (hn0 : 0 ≤ n) (hn1 : n ≤ 255) (ks : List Int) (hks : Ru.By ks) (A : Option Addr) (cap : Nat) (w : World) (h : Bs w w.heap.size .u8 A ks) :
    Calls Try.prog 7 #[.int .u8 n, .slice A ks.length cap] w (Bo true w) := by
  have CA : Hid (∀ W, Calls Try.prog 11 #[] W (Bo true W)) := Lib.hid (lawake_any N)
  obtain ⟨k, hk⟩ : ∃ k : Nat, n % 100 = k := ⟨(n % 100).toNat, by omega⟩
  have hk1 : k < 100 := by omega
  have H := Lib.hid h
  have HK := Lib.hid hk
  have hkc : ((n.tmod 100 : Int)) = k := by rw [Int.tmod_eq_emod_of_nonneg hn0]; exact hk
  have HKC := Lib.hid hkc
  clear h hk hkc
  go_enter Try.func7, Try.ntmps7
  go_wp2_with fail
  rw [HK.out]
  go_loopw [6, 17] (fun v6 v17 wr => ∃ i : Nat, i ≤ k ∧ v17 = .int .i64 i ∧ Ow 31 3 w v6 (Ns.ops ks i).length (tkC (Ns.ops ks i)) wr) (fun _ v17 _ => k - (RowKit.intOf v17).toNat)
  case atStart => exact ⟨0, Nat.zero_le _, rfl, Ow.start _ _ (Below.refl _ _)⟩
  case round =>
    obtain ⟨i, hi, rfl, hown⟩ := hrel
    have HO := Lib.hid hown
    have hol := Ns.ops_len ks i
    have hol2 : (Ns.ops ks i).length ≤ 1000000 := by omega
    clear hown hol
    by_cases hlt : i < k
    · have HN := Lib.hid (Ns.ops_next ks i)
      generalize Ns.ops ks i = os at *
      by_cases hin : i < ks.length
      · obtain ⟨bb, off, rfl, hbb, hp⟩ := (H.out.next HO.out.bel) (by omega)
        have p0 := hp i hin
        have hby := hks (Ru.g ks i) (by rw [Ru.g_eq hin]; exact List.getElem_mem _)
        clear hp
        generalize Ru.g ks i = c at *
        have hc4 : c % 4 = 0 ∨ c % 4 = 1 ∨ c % 4 = 2 ∨ c % 4 = 3 := by omega
        rcases hc4 with hc | hc | hc | hc
        · rw [Ns.oT_0 hc] at HN
          go_wp2_with (at_builtin; refine app_tok rfl _ _ rfl rfl (HO.out.alloc _) _ _ _ _ _ _ (size_next _ _) rfl hol2 ?_; intro v' w3 H3; have HO3 := Lib.hid H3; clear H3)
          go_roundw
          case rel => exact ⟨i + 1, by omega, by go_num, by rw [HN.out]; exact HO3.out⟩
          case measure => simp [RowKit.intOf]; omega
        · rw [Ns.oT_1 hc] at HN
          go_wp2_with (at_builtin; refine app_tok rfl _ _ rfl rfl (HO.out.alloc _) _ _ _ _ _ _ (size_next _ _) rfl hol2 ?_; intro v' w3 H3; have HO3 := Lib.hid H3; clear H3)
          go_roundw
          case rel => exact ⟨i + 1, by omega, by go_num, by rw [HN.out]; exact HO3.out⟩
          case measure => simp [RowKit.intOf]; omega
        · rw [Ns.oT_2 hc] at HN
          go_wp2_with (at_builtin; refine app_tok rfl _ _ rfl rfl (HO.out.alloc _) _ _ _ _ _ _ (size_next _ _) rfl hol2 ?_; intro v' w3 H3; have HO3 := Lib.hid H3; clear H3)
          go_roundw
          case rel => exact ⟨i + 1, by omega, by go_num, by rw [HN.out]; exact HO3.out⟩
          case measure => simp [RowKit.intOf]; omega
        · rw [Ns.oT_3 hc] at HN
          go_wp2_with (at_builtin; refine app_tok rfl _ _ rfl rfl (HO.out.alloc _) _ _ _ _ _ _ (size_next _ _) rfl hol2 ?_; intro v' w3 H3; have HO3 := Lib.hid H3; clear H3)
          go_roundw
          case rel => exact ⟨i + 1, by omega, by go_num, by rw [HN.out]; exact HO3.out⟩
          case measure => simp [RowKit.intOf]; omega
      · have hz : Ru.g ks i = 0 := by unfold Ru.g; rw [List.getD_eq_getElem?_getD, List.getElem?_eq_none (by omega)]; rfl
        rw [hz, Ns.oT_0 (by decide)] at HN
        clear hz
        go_wp2_with (at_builtin; refine app_tok rfl _ _ rfl rfl (HO.out.alloc _) _ _ _ _ _ _ (size_next _ _) rfl hol2 ?_; intro v' w3 H3; have HO3 := Lib.hid H3; clear H3)
        go_roundw
        case rel => exact ⟨i + 1, by omega, by go_num, by rw [HN.out]; exact HO3.out⟩
        case measure => simp [RowKit.intOf]; omega
    · obtain rfl : i = k := by omega
      have hdl := Ns.dp_start ks i
      rw [← hdl] at HO
      have HO' := Lib.hid HO.out
      clear HO hol2 hdl
      obtain ⟨A6, c6, rfl, _⟩ := HO'.out.form
      go_wp2_with fail
      go_loopw [6, 9] (fun v6 v9 wi => ∃ j : Nat, j ≤ i ∧ v9 = .int .i64 ((j : Int) - 1) ∧ Ow 31 3 w v6 (Ns.dp ks i j).length (tkC (Ns.dp ks i j)) wi) (fun _ v9 _ => (RowKit.intOf v9 + 1).toNat)
      case atStart => exact ⟨i, Nat.le_refl _, rfl, HO'.out⟩
      case round =>
        obtain ⟨j, hj, rfl, hown⟩ := hrel
        have HO := Lib.hid hown
        have hdl := Ns.dp_len (ks := ks) hj
        have hol2 : (Ns.dp ks i j).length ≤ 1000000 := by omega
        clear hown HO'
        by_cases hj0 : j = 0
        · subst hj0
          have hde := Ns.dp_end ks i
          rw [hde] at HO hdl hol2
          obtain ⟨A7, c7, rfl, hc7⟩ := HO.out.form
          have hTs := Ts.of_own HO.out.own
          have CE := Lib.hid (N.ends (Ns.more (Ns.ops ks i)) (by omega) A7 c7 hc7 _ hTs)
          by_cases h64 : 64 < i
          · have CE2 := Lib.hid (CE.out.mono fun e w' h => h.2 (Ns.dp_deep h64))
            have d1 : decide (64 < (i : Int)) = true := decide_eq_true (by omega)
            have d2 : decide (64 < i) = true := decide_eq_true h64
            clear CE hde hTs hdl h64
            generalize Ns.more (Ns.ops ks i) = ml at *
            go_wp2_with (first | (go_at_call 12; ((with_reducible refine (CE2.out).mono ?_); rintro e w2 ⟨rfl, b2⟩; have HB2 := Lib.hid (below_next HO.out.bel b2); clear b2)) | (go_at_call 11; ((with_reducible refine (CA.out _).mono ?_); rintro e w5 ⟨rfl, b5⟩; have HB5 := Lib.hid (below_next HB2.out b5); clear b5)))
            go_ret
            exact ⟨rfl, HB5.out⟩
          · have CE2 : Hid (Calls Try.prog 12 #[.slice A7 (Ns.more (Ns.ops ks i)).length c7] _ (EndsL (Ns.ends (Ns.more (Ns.ops ks i))) _)) := Lib.hid (CE.out.mono fun e w' h => ends_rd (h.1 (Ns.dp_flat (by omega))))
            have d1 : decide (64 < (i : Int)) = false := decide_eq_false (by omega)
            have d2 : decide (64 < i) = false := decide_eq_false h64
            have hel := Ns.ends_len (Ns.more (Ns.ops ks i))
            have HEL : Hid ((Ns.ends (Ns.more (Ns.ops ks i))).length = i + i) := Lib.hid (by omega)
            have HV : Hid (∀ x, x < i → Ru.g (Ns.ends (Ns.more (Ns.ops ks i))) x = 2 * (i : Int) - 1 - x) := Lib.hid fun x hx => Ns.dp_ends hx
            clear CE hde hTs hdl h64 hel
            generalize Ns.ends (Ns.more (Ns.ops ks i)) = es at *
            generalize Ns.more (Ns.ops ks i) = ml at *
            go_wp2_with (first | (go_at_call 12; ((with_reducible refine (CE2.out).mono ?_); rintro e w2 ⟨A2, c2, rfl, hc2, B2, b2⟩; have HB2 := Lib.hid (below_next HO.out.bel b2); have HS2 := Lib.hid B2; clear b2 B2)))
            go_loopw [74] (fun v74 wi => ∃ x : Nat, x ≤ i ∧ v74 = .int .i64 x ∧ wi = w2) (fun v74 _ => i - (RowKit.intOf v74).toNat)
            case atStart => exact ⟨0, Nat.zero_le _, rfl, rfl⟩
            case round =>
              obtain ⟨x, hx, rfl, rfl⟩ := hrel
              by_cases hxi : x < i
              · have hvx := HV.out x hxi
                have hxl : x < es.length := by rw [HEL.out]; omega
                obtain ⟨bb, off, rfl, hbb, hp⟩ := HS2.out (by omega)
                have p0 := hp x hxl
                rw [hvx] at p0
                have hne : ((es.length : Int) != 2 * (i : Int)) = false := Ru.ne_f (by rw [HEL.out]; omega)
                have hwr : IntKind.i64.wrap ((x : Int) + 1) = (x : Int) + 1 := IntWalk.i64_in _ (by omega)
                clear hp hvx
                go_wp2_with fail
                go_roundw
                case rel => exact ⟨x + 1, by omega, by go_num, by first | rfl | trivial⟩
                case measure => simp [RowKit.intOf]; omega
              · go_wp2_with (go_at_call 11; ((with_reducible refine (CA.out _).mono ?_); rintro e w5 ⟨rfl, b5⟩; have HB5 := Lib.hid (below_next HB2.out b5); clear b5))
                go_ret
                exact ⟨rfl, HB5.out⟩
        · obtain ⟨m, rfl⟩ : ∃ m, j = m + 1 := ⟨j - 1, by omega⟩
          have HN := Lib.hid (Ns.dp_next (ks := ks) (k := i) (j := m) (by omega))
          obtain ⟨g, c7, rfl, _, hg0, hg1⟩ := HO.out.at_ (by omega)
          have hcs := Tk.cells_at (Ns.dp ks i (m + 1)) m (by omega)
          rw [Ns.dp_at (by omega)] at hcs
          have q0 := HO.out.cells hcs.1
          have q1 := HO.out.cells hcs.2.1
          have q2 := HO.out.cells hcs.2.2
          have hml : m < (Ns.dp ks i (m + 1)).length := by omega
          have C : Hid (∀ W, Calls Try.prog 25 #[.agg #[.int .i64 (Ns.oT (Ru.g ks m)).1, .string (Ns.oT (Ru.g ks m)).2.1, .int .i64 (Ns.oT (Ru.g ks m)).2.2]] W (Sg (Ns.clo (Ns.oT (Ru.g ks m))) W)) := Lib.hid fun W => rclose_any _ _ _ W
          have HE : Hid ((((m + 1 : Nat) : Int) - 1) = (m : Int)) := Lib.hid (by omega)
          clear hcs hdl
          generalize Ns.oT (Ru.g ks m) = u at *
          generalize Ns.clo u = cl at *
          generalize Ns.dp ks i (m + 1) = dl at *
          rw [HE.out]
          go_wp2_with (first | (go_at_call 25; ((with_reducible refine (C.out _).mono ?_); rintro e w1 ⟨rfl, b1⟩; have HO1 := Lib.hid (HO.out.next b1); clear b1)) | (at_builtin; refine app_tok rfl _ _ rfl rfl HO1.out _ _ _ _ _ _ rfl rfl hol2 ?_; intro v' w3 H3; have HO3 := Lib.hid H3; clear H3))
          go_roundw
          case rel => exact ⟨m, by omega, rfl, by rw [HN.out]; exact HO3.out⟩
          case measure => simp [RowKit.intOf]; try omega
end Go.Proofs.Ytpjdaenmfdcjhaa
