/-
  The walk of the law TokenNames: a name that begins with a great letter.
-/
import Derived.Test.YtppgklmliklkkaaDoorGj1
import Derived.Lib.OthersKept
import Derived.BigGuard
namespace Go.Proofs.YtppgklmliklkkaaDoor
open Go.RowKit
open Go.ChangeMaps (setBlock)

set_option maxHeartbeats 8000000 in
set_option maxRecDepth 100000 in
theorem tokenNames_up (s : ByteArray) (w : World) (hT : UTab w.heap.size w) (g1 : s.size ≤ 200) (g0 : 0 < s.size) (hq : 65 ≤ (s[0].toNat : Int) ∧ (s[0].toNat : Int) ≤ 90) :
    Calls Tryd.prog 6 #[.string s] w (Yes w) := by
  have CA : Hid (∀ w1, Below w.heap.size w w1 → Calls Tryd.prog 8 #[] w1 (Yes w1)) := Lib.hid fun w1 h => awake_any w1 (hT.next h)
  have HG := Lib.hid (Ru.bs_get s 0 g0)
  have HL : Hid (Tk.LtC (s[0].toNat : Int)) := Lib.hid (by unfold Tk.LtC; omega)
  have HT := Lib.hid hT
  clear hT
  go_enter Tryd.func6, Tryd.ntmps6
  go_wp2_with fail
  go_loopw [42, 3] (fun v42 v3 wx => ∃ (k : Nat) (t : ByteArray), k ≤ s.size ∧ v42 = .int .i64 k ∧ v3 = .string t ∧ Hid (Ru.bs t = Tk.escs ((Ru.bs s).take k)) ∧ Hid (∀ j, j < k → Tk.NmC (Ru.g (Ru.bs s) j)) ∧ Hid (Below w.heap.size w wx)) (fun v42 _ _ => s.size - (RowKit.intOf v42).toNat)
  case atStart => exact ⟨0, ⟨#[]⟩, Nat.zero_le _, rfl, rfl, Lib.hid rfl, Lib.hid (fun j hj => by omega), Lib.hid (Below.refl _ _)⟩
  case round =>
    obtain ⟨k, t, hk, rfl, rfl, HE, HK, HB⟩ := hrel
    by_cases hlt : k < s.size
    · by_cases hn : Tk.NmC (s[k].toNat : Int)
      · have hn2 := hn
        unfold Tk.NmC at hn2
        have HN := Lib.hid hn
        clear hn
        have hc : s[k].toNat < 256 := UInt8.toNat_lt _
        have hx1 := index_hx ((s[k].toNat : Int) / 16) (by omega) (by omega)
        have hx2 := index_hx ((s[k].toNat : Int) % 16) (by omega) (by omega)
        rw [← bits_15 _ hc] at hx2
        have hcv := conv_two wr (Tk.hx ((s[k].toNat : Int) / 16)) (Tk.hx (bits BinOp.and IntKind.u8 (s[k].toNat : Int) 15))
        obtain ⟨u, hu, hus⟩ : ∃ u, u = strOfNums [Tk.hx ((s[k].toNat : Int) / 16), Tk.hx (bits BinOp.and IntKind.u8 (s[k].toNat : Int) 15)] ∧ u.size = 2 := ⟨_, rfl, rfl⟩
        rw [← hu] at hcv
        rw [bits_15 _ hc] at hu
        have HE2 : Hid (Ru.bs (t ++ (⟨#[92]⟩ ++ u ++ ⟨#[32]⟩)) = Tk.escs ((Ru.bs s).take (k + 1))) := Lib.hid (by
          rw [hu]; exact bs_more HE.out hlt (Ru.bs_get s k hlt) (by omega) (by omega))
        have HK2 : Hid (∀ j, j < k + 1 → Tk.NmC (Ru.g (Ru.bs s) j)) := Lib.hid fun j hj => by
          by_cases c : j < k
          · exact HK.out j c
          · have : j = k := by omega
            subst this; rw [Ru.bs_get s j hlt]; exact HN.out
        clear hu
        have hsz : t.size ≤ 800 := by
          rw [size_of_bs HE.out, Tk.escs_len, List.length_take]; omega
        by_cases q4 : (s[k].toNat : Int) = 45
        · have e4 := Ru.eq_t q4
          have l4 : (s[k].toNat : Int) < 48 := by omega
          clear q4 hn2
          go_wp2_with fail
          go_region_with fail
          all_goals
            go_wp2_with fail
            go_roundw
            case rel => exact ⟨k + 1, _, by omega, by go_num, rfl, HE2, HK2, Lib.hid ((HB.out.alloc HB.out.size _).drew)⟩
            case measure => simp [RowKit.intOf]; omega
        · by_cases q5 : (s[k].toNat : Int) = 95
          · have e4 := Ru.eq_f q4
            have e5 := Ru.eq_t q5
            have l5 : 90 < (s[k].toNat : Int) ∧ (s[k].toNat : Int) < 97 := by omega
            clear q4 q5 hn2
            go_wp2_with fail
            go_region_with fail
            all_goals
              go_wp2_with fail
              go_roundw
              case rel => exact ⟨k + 1, _, by omega, by go_num, rfl, HE2, HK2, Lib.hid ((HB.out.alloc HB.out.size _).drew)⟩
              case measure => simp [RowKit.intOf]; omega
          · rcases (show (97 ≤ (s[k].toNat : Int) ∧ (s[k].toNat : Int) ≤ 122) ∨ (65 ≤ (s[k].toNat : Int) ∧ (s[k].toNat : Int) ≤ 90) ∨ (48 ≤ (s[k].toNat : Int) ∧ (s[k].toNat : Int) ≤ 57) by omega) with hn2 | hn2 | hn2
            all_goals
              clear q4 q5
              go_wp2_with fail
              go_region_with fail
              all_goals
                go_wp2_with fail
                go_roundw
                case rel => exact ⟨k + 1, _, by omega, by go_num, rfl, HE2, HK2, Lib.hid ((HB.out.alloc HB.out.size _).drew)⟩
                case measure => simp [RowKit.intOf]; omega
      · unfold Tk.NmC at hn
        have e4 := Ru.eq_f (show ¬ (s[k].toNat : Int) = 45 by omega)
        have e5 := Ru.eq_f (show ¬ (s[k].toNat : Int) = 95 by omega)
        rcases (show (s[k].toNat : Int) ≤ 44 ∨ (46 ≤ (s[k].toNat : Int) ∧ (s[k].toNat : Int) ≤ 47) ∨ (58 ≤ (s[k].toNat : Int) ∧ (s[k].toNat : Int) ≤ 64) ∨ (91 ≤ (s[k].toNat : Int) ∧ (s[k].toNat : Int) ≤ 94) ∨ (96 ≤ (s[k].toNat : Int) ∧ (s[k].toNat : Int) ≤ 96) ∨ 123 ≤ (s[k].toNat : Int) by omega) with hn2 | hn2 | hn2 | hn2 | hn2 | hn2
        all_goals
         clear hn
         try have d57 : decide ((s[k].toNat : Int) ≤ 57) = false := decide_eq_false (by omega)
         try have d90 : decide ((s[k].toNat : Int) ≤ 90) = false := decide_eq_false (by omega)
         try have d122 : decide ((s[k].toNat : Int) ≤ 122) = false := decide_eq_false (by omega)
         go_wp2_with (go_at_call 8; ((with_reducible refine (CA.out _ HB.out).mono ?_); rintro e w4 ⟨rfl, b4⟩))
         go_ret
         exact ⟨rfl, below_next HB.out b4⟩
    · have hwd : Tk.Wd (Ru.bs s) := by
        refine ⟨⟨Ru.g (Ru.bs s) 0, (Ru.bs s).tail, ?_, ?_⟩, ?_⟩
        · have h1 : 0 < (Ru.bs s).length := by rw [Ru.bs_len]; exact g0
          cases hx : Ru.bs s with
          | nil => rw [hx] at h1; simp at h1
          | cons a r => rfl
        · rw [HG.out]; exact HL.out
        · intro c hc
          obtain ⟨i, hi, rfl⟩ := List.mem_iff_getElem.1 hc
          rw [← Ru.g_eq hi]
          exact HK.out i (by rw [Ru.bs_len] at hi; omega)
      have HE2 : Hid (Ru.bs t = Tk.escs (Ru.bs s)) := Lib.hid (by
        have := HE.out
        rw [List.take_of_length_le (by rw [Ru.bs_len]; omega)] at this
        exact this)
      have HW := Lib.hid hwd
      clear hwd HE HK HG HL hq
      have hsz : t.size ≤ 800 := by
        rw [size_of_bs HE2.out, Tk.escs_len, Ru.bs_len]; omega
      go_wp2_with fail
      obtain ⟨k1, k2, k3, k4, k5⟩ := names_ok HW.out g1 HE2.out hsz
      have HN := Lib.hid (And.intro k1 (And.intro k2 (And.intro k3 (And.intro k4 k5))))
      clear k1 k2 k3 k4 k5 HW HE2
      have hM : w.heap.size ≤ wr.heap.size := HB.out.size
      refine wp_region_any (by kernel_rfl) ?_
      change wpAny _ _ _ _ _ _ _ (World.drew _)
      refine wpAny_take (i := 1) (v := ?_) rfl (by kernel_rfl) (by kernel_rfl) (by kernel_rfl) (fun _ _ _ h => h) (Or.inl ⟨by rfl, ?_⟩) ?_
      rotate_left
      · intro w0; go_simp; first | done | (with_reducible rfl) | (rw [if_neg (by omega)])
      refine wpAny_take (i := 2) (v := ?_) rfl (by kernel_rfl) (by kernel_rfl) (by kernel_rfl) (fun _ _ _ h => h) (Or.inl ⟨by rfl, ?_⟩) ?_
      rotate_left
      · intro w0; go_simp; first | done | (with_reducible rfl) | (rw [if_neg (by omega)])
      refine wpAny_take (i := 3) (v := ?_) rfl (by kernel_rfl) (by kernel_rfl) (by kernel_rfl) (fun _ _ _ h => h) (Or.inl ⟨by rfl, ?_⟩) ?_
      rotate_left
      · intro w0; go_simp; first | done | (with_reducible rfl) | (rw [if_neg (by omega)])
      refine wpAny_take (i := 5) (v := ?_) rfl (by kernel_rfl) (by kernel_rfl) (by kernel_rfl) (fun _ _ _ h => h) (Or.inl ⟨by rfl, ?_⟩) ?_
      rotate_left
      · intro w0; go_simp; first | done | (with_reducible rfl) | (rw [if_neg (by omega)])
      refine wpAny_take (i := 6) (v := ?_) rfl (by kernel_rfl) (by kernel_rfl) (by kernel_rfl) (fun _ _ _ h => h) (Or.inl ⟨by rfl, ?_⟩) ?_
      rotate_left
      · intro w0; go_simp; first | done | (with_reducible rfl) | (rw [if_neg (by omega)])
      refine wpAny_take (i := 7) (v := ?_) rfl (by kernel_rfl) (by kernel_rfl) (by kernel_rfl) (fun _ _ _ h => h) (Or.inl ⟨by rfl, ?_⟩) ?_
      rotate_left
      · intro w0; go_simp; first | done | (with_reducible rfl) | (rw [if_neg (by omega)])
      refine wpAny_take (i := 8) (v := ?_) rfl (by kernel_rfl) (by kernel_rfl) (by kernel_rfl) (fun _ _ _ h => h) (Or.inl ⟨by rfl, ?_⟩) ?_
      rotate_left
      · intro w0; go_simp; first | done | (with_reducible rfl) | (rw [if_neg (by omega)])
      refine wpAny_take (i := 10) (v := ?_) rfl (by kernel_rfl) (by kernel_rfl) (by kernel_rfl) (fun _ _ _ h => h) (Or.inl ⟨by rfl, ?_⟩) ?_
      rotate_left
      · intro w0; go_simp; first | done | (with_reducible rfl) | (rw [if_neg (by omega)])
      refine wpAny_take (i := 11) (v := ?_) rfl (by kernel_rfl) (by kernel_rfl) (by kernel_rfl) (fun _ _ _ h => h) (Or.inl ⟨by rfl, ?_⟩) ?_
      rotate_left
      · intro w0; go_simp; first | done | (with_reducible rfl) | (rw [if_neg (by omega)])
      refine wpAny_take (i := 12) (v := ?_) rfl (by kernel_rfl) (by kernel_rfl) (by kernel_rfl) (fun _ _ _ h => h) (Or.inl ⟨by rfl, ?_⟩) ?_
      rotate_left
      · intro w0; go_simp; first | done | (with_reducible rfl) | (rw [if_neg (by omega)])
      refine wpAny_take (i := 13) (v := ?_) rfl (by kernel_rfl) (by kernel_rfl) (by kernel_rfl) (fun _ _ _ h => h) (Or.inl ⟨by rfl, ?_⟩) ?_
      rotate_left
      · intro w0; go_simp; first | done | (with_reducible rfl) | (rw [if_neg (by omega)])
      refine wpAny_take (i := 15) (v := ?_) rfl (by kernel_rfl) (by kernel_rfl) (by kernel_rfl) (fun _ _ _ h => h) (Or.inl ⟨by rfl, ?_⟩) ?_
      rotate_left
      · intro w0; go_simp; first | done | (with_reducible rfl) | (rw [if_neg (by omega)])
      refine wpAny_take (i := 16) (v := ?_) rfl (by kernel_rfl) (by kernel_rfl) (by kernel_rfl) (fun _ _ _ h => h) (Or.inl ⟨by rfl, ?_⟩) ?_
      rotate_left
      · intro w0; go_simp; first | done | (with_reducible rfl) | (rw [if_neg (by omega)])
      refine wpAny_take (i := 17) (v := ?_) rfl (by kernel_rfl) (by kernel_rfl) (by kernel_rfl) (fun _ _ _ h => h) (Or.inl ⟨by rfl, ?_⟩) ?_
      rotate_left
      · intro w0; go_simp; first | done | (with_reducible rfl) | (rw [if_neg (by omega)])
      refine wpAny_take (i := 18) (v := ?_) rfl (by kernel_rfl) (by kernel_rfl) (by kernel_rfl) (fun _ _ _ h => h) (Or.inl ⟨by rfl, ?_⟩) ?_
      rotate_left
      · intro w0; go_simp; first | done | (with_reducible rfl) | (rw [if_neg (by omega)])
      refine wpAny_take (i := 20) (v := ?_) rfl (by kernel_rfl) (by kernel_rfl) (by kernel_rfl) (fun _ _ _ h => h) (Or.inl ⟨by rfl, ?_⟩) ?_
      rotate_left
      · intro w0; go_simp; first | done | (with_reducible rfl) | (rw [if_neg (by omega)])
      refine wpAny_take (i := 21) (v := ?_) rfl (by kernel_rfl) (by kernel_rfl) (by kernel_rfl) (fun _ _ _ h => h) (Or.inl ⟨by rfl, ?_⟩) ?_
      rotate_left
      · intro w0; go_simp; first | done | (with_reducible rfl) | (rw [if_neg (by omega)])
      refine wpAny_take (i := 22) (v := ?_) rfl (by kernel_rfl) (by kernel_rfl) (by kernel_rfl) (fun _ _ _ h => h) (Or.inl ⟨by rfl, ?_⟩) ?_
      rotate_left
      · intro w0; go_simp; first | done | (with_reducible rfl) | (rw [if_neg (by omega)])
      refine wpAny_ready (rs := [0]) (by kernel_rfl) (by simp) ?_
      refine AllReady.cons rfl (fun K hK => ?_) AllReady.nil
      go_simp
      refine hK _ _ ?_
      clear hK K
      refine any_order (I := fun n w' => HoldsMap (NameOk s) wr.heap.size n w' ∧ Below w.heap.size w w') (is := [4, 9, 14, 19, 23]) (full := #[true, true, true, true, true, true, true, true, true, true, true, true, true, true, true, true, true, true, true, true, true, true, true, true, false, false]) (m := 2) ?step 5 0 _ (by decide) ?full (by kernel_rfl) _ ?init
      case init => exact ⟨(HoldsMap.made _ wr).kept rfl, (HB.out.alloc hM _).drew⟩
      case step =>
        rintro i hi K n w1 hn ⟨hm, hb⟩ hK
        simp only [List.mem_cons, List.not_mem_nil, or_false] at hi
        obtain ⟨k1, k2, k3, k4, k5⟩ := HN.out
        rcases hi with rfl | rfl | rfl | rfl | rfl
        · obtain ⟨w', hrun, hm', hbl⟩ := hm.insert (by unfold maxLen; omega) (k := s) (by obtain ⟨_, _, h, _⟩ := k1; unfold maxLen; omega) k1
          exact insert_step rfl rfl rfl rfl hrun (hK w' ⟨hm', hbl _ _ hM hb⟩)
        · obtain ⟨w', hrun, hm', hbl⟩ := hm.insert (by unfold maxLen; omega) (k := ⟨#[64]⟩ ++ s) (by obtain ⟨_, _, h, _⟩ := k2; unfold maxLen; omega) k2
          exact insert_step rfl rfl rfl rfl hrun (hK w' ⟨hm', hbl _ _ hM hb⟩)
        · obtain ⟨w', hrun, hm', hbl⟩ := hm.insert (by unfold maxLen; omega) (k := ⟨#[35]⟩ ++ s) (by obtain ⟨_, _, h, _⟩ := k3; unfold maxLen; omega) k3
          exact insert_step rfl rfl rfl rfl hrun (hK w' ⟨hm', hbl _ _ hM hb⟩)
        · obtain ⟨w', hrun, hm', hbl⟩ := hm.insert (by unfold maxLen; omega) (k := s ++ ⟨#[40]⟩) (by obtain ⟨_, _, h, _⟩ := k4; unfold maxLen; omega) k4
          exact insert_step rfl rfl rfl rfl hrun (hK w' ⟨hm', hbl _ _ hM hb⟩)
        · obtain ⟨w', hrun, hm', hbl⟩ := hm.insert (by unfold maxLen; omega) (k := t) (by obtain ⟨_, _, h, _⟩ := k5; unfold maxLen; omega) k5
          exact insert_step rfl rfl rfl rfl hrun (hK w' ⟨hm', hbl _ _ hM hb⟩)
      case full =>
        rintro w1 ⟨hm, hb⟩
        refine wpAny_ready (rs := [24]) (by kernel_rfl) (by simp) ?_
        refine AllReady.cons rfl (fun K hK => ?_) AllReady.nil
        go_simp
        refine hK _ _ ?_
        clear hK K
        obtain ⟨es, clock, hmb, F, hs5, hall⟩ := hm
        have hr := run_range hmb
        refine wpAny_ready (rs := [25]) (by kernel_rfl) (by simp) ?_
        refine AllReady.cons rfl (fun K hK => ?_) AllReady.nil
        go_simp
        refine hK _ _ ?_
        clear hK K
        refine wpAny_done (by kernel_rfl) ?_ _
        have HS := Lib.hid F.stamped
        have HA := Lib.hid hall
        have hRM : wr.heap.size < w1.heap.size := by
          by_cases c : wr.heap.size < w1.heap.size
          · exact c
          · rw [Array.getElem?_eq_none (by omega)] at hmb; cases hmb
        have HMB := Lib.hid ((Below.heap_alloc w1 (.mapIter (some wr.heap.size) clock #[] clock) wr.heap.size hRM).trans hmb)
        have HB1 := Lib.hid (hb.alloc hb.size (.mapIter (some wr.heap.size) clock #[] clock))
        have HI : Hid ((w1.alloc (.mapIter (some wr.heap.size) clock #[] clock)).heap[w1.heap.size]? = some (.mapIter (some wr.heap.size) clock #[] clock)) := Lib.hid (by show (w1.heap.push _)[w1.heap.size]? = _; simp)
        clear F hall hmb hr HB HN
        go_wp2_with fail
        have hRM2 : w.heap.size ≤ w1.heap.size := by omega
        generalize wr.heap.size = M at *
        generalize w1.heap.size = R at *
        go_loopg [] 5 (fun r wx => ∃ seen : Array Nat, (leftOf es seen).size ≤ r ∧ Hid (wx.heap[M]? = some (.map es clock)) ∧ Hid (wx.heap[R]? = some (.mapIter (some M) clock seen clock)) ∧ Hid (Below w.heap.size w wx))
        case atStart => exact ⟨#[], Nat.le_trans (by unfold leftOf; exact Array.size_filter_le) hs5, HMB, HI, HB1⟩
        case round =>
          obtain ⟨seen, hleft, HMB2, HI2, HB2⟩ := hrel
          rcases run_next_at (P := Tryd.prog) wr 0 R M clock clock seen es clock HI2.out HMB2.out HS.out.1 (Nat.le_refl _) with ⟨h0, hnx⟩ | ⟨e, he, wy, hal, hnx⟩
          · clear h0
            go_wp2_with (go_at_call 8; ((with_reducible refine (CA.out _ HB2.out).mono ?_); rintro e w4 ⟨rfl, b4⟩))
            go_ret
            exact ⟨rfl, below_next HB2.out b4⟩
          · obtain ⟨hl1, hmem⟩ := left_less he
            obtain ⟨kk, hkey, kind, hval, hks, hscan⟩ := HA.out e hmem
            obtain ⟨f1, f2, f3⟩ := step_world (M := M) (o' := .mapIter (some M) clock (seen.push e.born) clock) hal HI2.out (by omega) hRM2 HB2.out
            obtain ⟨W1, hW1⟩ : ∃ W1, W1 = setBlock wy R (.mapIter (some M) clock (seen.push e.born) clock) := ⟨_, rfl⟩
            rw [← hW1] at hnx f1 f2 f3
            have hmb1 := f2.trans HMB2.out
            have hen := run_entry_at (P := Tryd.prog) W1 R M clock seen es clock e f1 hmb1 hmem HS.out.2.1
            rw [hkey, hval] at hnx hen
            have HL3 := Lib.hid hl1
            have G1 := Lib.hid f1
            have G2 := Lib.hid hmb1
            have G3 := Lib.hid f3
            clear hal he hl1 hkey hval f1 f2 f3 hmb1 hmem hW1
            generalize e.born = eb at *
            have hW2 : Below w.heap.size w (W1.alloc (.cells #[.int .i64 kind, .string s, .int .i64 0] 29)) := G3.out.alloc G3.out.size _
            obtain ⟨Ca, na, wa, hca, CSa⟩ := conv_scan kk (W1.alloc (.cells #[.int .i64 kind, .string s, .int .i64 0] 29)) (HT.out.next hW2) (by omega) [(kind, s, 0)] hscan
            have HW2 := Lib.hid hW2
            clear hW2 hscan
            have hz2 : (W1.alloc (.cells #[.int .i64 kind, .string s, .int .i64 0] 29)).heap.size = W1.heap.size + 1 := by show (W1.heap.push _).size = _; simp
            have CSb := CSa.out
            rw [hz2] at CSb
            have HZ := Lib.hid hz2
            have CSa := Lib.hid CSb
            clear CSb hz2
            have CS : Hid (∀ (A C : Option Addr) (ca cb : Nat) (w1 : World), Ts w1 w1.heap.size A [(kind, s, 0)] → Ts w1 w1.heap.size C [(kind, s, 0)] → Calls Tryd.prog 10 #[.slice A 1 ca, .slice C 1 cb] w1 (Yes w1)) := Lib.hid fun A C ca cb w1 h1 h2 => same_any [(kind, s, 0)] A C ca cb w1 (by simp) h1 h2
            go_wp2_with (first | (go_at_call 9; ((with_reducible refine (CSa.out).mono ?_); rintro e w3 ⟨A1, c1, rfl, k1, B1, b1⟩; rw [← HZ.out] at b1; obtain ⟨q0, q1, q2⟩ := cell_keep b1; have HT1 := Lib.hid (B1.next ((Below.refl w3.heap.size w3).alloc (Nat.le_refl _) (.cells #[.int .i64 kind, .string s, .int .i64 0] 29))); have HO := Lib.hid (ts_kind w3 kind s); clear B1)) | (go_at_call 10; ((with_reducible refine (CS.out _ _ _ _ _ HT1.out HO.out).mono ?_); rintro e w5 ⟨rfl, b2⟩; have HB5 := Lib.hid (below_next (b1.alloc b1.size (.cells #[.int .i64 kind, .string s, .int .i64 0] 29)) b2))))
            go_roundg (leftOf es (seen.push eb)).size
            case measure => have := HL3.out; omega
            case rel => exact ⟨seen.push eb, Nat.le_refl _, Lib.hid (keep_block G2.out HB5.out), Lib.hid (keep_block G1.out HB5.out), Lib.hid (below_next HW2.out HB5.out)⟩
end Go.Proofs.YtppgklmliklkkaaDoor
