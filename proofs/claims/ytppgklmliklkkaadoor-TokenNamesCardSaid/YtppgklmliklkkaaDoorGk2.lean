/-
  The walk of the law TokenComments.
-/
import Derived.Test.YtppgklmliklkkaaDoorGu
import Derived.Test.YtppgklmliklkkaaDoorGk0
import Derived.Test.YtppgklmliklkkaaDoorGo
import Derived.WalkSpells
namespace Go.Proofs.YtppgklmliklkkaaDoor
open Go.RowKit

theorem bs_app (a b : ByteArray) : Ru.bs (a ++ b) = Ru.bs a ++ Ru.bs b := by unfold Ru.bs; rw [ByteArray.data_append, Array.toList_append, List.map_append]
theorem str_bs {s : ByteArray} (h : Tk.Low (Ru.bs s)) : Tk.str (Ru.bs s) = s := by
  unfold Tk.str
  rw [Ru.wr_asc _ (fun c hc => by have := h.2 c hc; omega)]
  unfold strOfNums Ru.bs
  rw [List.map_map]
  have : s = ⟨s.data⟩ := rfl
  rw [this]
  congr 1
  apply Array.ext'
  simp only
  apply List.ext_getElem
  · simp
  · intro i h1 h2
    simp
/-- what a conversion has made, and what Scan tells of it -/
theorem conv_scan (x : ByteArray) (w : World) (hT : UTab w.heap.size w) (hx : x.size ≤ 4000) (ts : List Tk.Tok) (hs : Tk.scan (Ru.rd (Ru.bs x)) 0 = ts) :
    ∃ (C n : Nat) (w0 : World), (convert 9 22 (.string x)).run Tryd.prog w = .ok (.slice (some ⟨w.heap.size, 0, none⟩) n C) w0 ∧
      Hid (Calls Tryd.prog 9 #[.slice (some ⟨w.heap.size, 0, none⟩) n C] w0 (fun e w' => ∃ (A : Option Addr) (cap : Nat), e = .returned (.tuple #[.slice A ts.length cap, .int .i64 0]) ∧ ts.length ≤ cap ∧ Ts w' w'.heap.size A ts ∧ Below w.heap.size w w')) := by
  obtain ⟨C, w0, h1, h2, _, h4, h5⟩ := bytes_of x w
  refine ⟨C, x.size, w0, h1, Lib.hid ?_⟩
  subst hs
  have hl := Ru.bs_len x
  have hB : Bs w0 w0.heap.size .u8 (some ⟨w.heap.size, 0, none⟩) (Ru.bs x) := fun h0 => ⟨w.heap.size, 0, rfl, by
    have hc := h2 0 (by omega)
    exact World.block_lt_of_cell? w0 ⟨w.heap.size, 0, none⟩ hc, fun j hj => by rw [Nat.zero_add]; exact h2 j (by omega)⟩
  have h := scan_told (Ru.bs x) (Ru.bs_by x) (some ⟨w.heap.size, 0, none⟩) C w0 (by omega) (by omega) (hT.next h4) hB
  rw [hl] at h
  exact h.mono fun e w' ⟨A, cap, he, hc, ht, hb⟩ => ⟨A, cap, he, hc, ht, below_next h4 hb⟩
theorem list_none {s : ByteArray} (h : s.size = 0) : s.toList.isEmpty = true := by
  have hl : s.toList.length = 0 := by rw [Lib.toList_data, ← Lib.size_eq]; exact h
  cases hx : s.toList with
  | nil => rfl
  | cons a b => rw [hx] at hl; simp at hl
theorem list_some {s : ByteArray} (h : ¬ s.size = 0) : s.toList.isEmpty = false := by
  have hl : ¬ s.toList.length = 0 := by rw [Lib.toList_data, ← Lib.size_eq]; exact h
  cases hx : s.toList with
  | nil => rw [hx] at hl; exact absurd rfl hl
  | cons a b => rfl
/-- the three sheets -/
theorem bs_a (s t : ByteArray) : Ru.bs (s ++ ⟨#[47, 42]⟩ ++ t ++ ⟨#[42, 47, 58]⟩ ++ s) = Ru.bs s ++ (47 :: 42 :: Ru.bs t ++ 42 :: 47 :: 58 :: Ru.bs s) := by
  rw [bs_app, bs_app, bs_app, bs_app, show Ru.bs ⟨#[47, 42]⟩ = [47, 42] from rfl, show Ru.bs ⟨#[42, 47, 58]⟩ = [42, 47, 58] from rfl]; simp
theorem bs_b (s : ByteArray) : Ru.bs (s ++ ⟨#[58]⟩ ++ s) = Ru.bs s ++ 58 :: Ru.bs s := by
  rw [bs_app, bs_app, show Ru.bs ⟨#[58]⟩ = [58] from rfl]; simp
theorem bs_c (s t : ByteArray) : Ru.bs (s ++ ⟨#[9, 47, 42]⟩ ++ t ++ ⟨#[42, 47, 32, 10]⟩ ++ s) = Ru.bs s ++ 9 :: (47 :: 42 :: Ru.bs t ++ 42 :: 47 :: 32 :: 10 :: Ru.bs s) := by
  rw [bs_app, bs_app, bs_app, bs_app, show Ru.bs ⟨#[9, 47, 42]⟩ = [9, 47, 42] from rfl, show Ru.bs ⟨#[42, 47, 32, 10]⟩ = [42, 47, 32, 10] from rfl]; simp
theorem size_of_bs {x : ByteArray} {l : List Int} (h : Ru.bs x = l) : x.size = l.length := by rw [← Ru.bs_len, h]
theorem not_mem_g {l : List Int} {c : Int} (h : ∀ j, j < l.length → Ru.g l j ≠ c) : ∀ x ∈ l, x ≠ c := fun x hx e => by
  obtain ⟨i, hi, rfl⟩ := List.mem_iff_getElem.1 hx
  exact h i hi (by rw [Ru.g_eq hi]; exact e)
theorem all_g {l : List Int} {a b : Int} (h : ∀ j, j < l.length → a ≤ Ru.g l j ∧ Ru.g l j ≤ b) : ∀ x ∈ l, a ≤ x ∧ x ≤ b := fun x hx => by
  obtain ⟨i, hi, rfl⟩ := List.mem_iff_getElem.1 hx
  rw [← Ru.g_eq hi]; exact h i hi

set_option maxHeartbeats 4000000 in
set_option maxRecDepth 100000 in
theorem tokenComments_walk (s t : ByteArray) (w : World) (hs : s.size ≤ maxLen) (ht : t.size ≤ maxLen) (hT : UTab w.heap.size w) :
    Calls Tryd.prog 5 #[.string s, .string t] w (Yes w) := by
  unfold maxLen at hs ht
  have CA : Hid (∀ w1, Below w.heap.size w w1 → Calls Tryd.prog 8 #[] w1 (Yes w1)) := Lib.hid fun w1 h => awake_any w1 (hT.next h)
  by_cases g1 : s.size ≤ 200
  · by_cases g2 : t.size ≤ 200
    · have HT := Lib.hid hT
      clear hT
      go_enter Tryd.func5, Tryd.ntmps5
      go_wp2_with fail
      go_loop [24] (fun v => ∃ k : Nat, k ≤ t.size ∧ v = .int .i64 k ∧ Hid (∀ j, j < k → Ru.g (Ru.bs t) j ≠ 42)) (fun v => t.size - (RowKit.intOf v).toNat)
      case atStart => exact ⟨0, Nat.zero_le _, rfl, Lib.hid (fun j hj => by omega)⟩
      case round =>
        obtain ⟨k, hk, rfl, HK⟩ := hrel
        by_cases hlt : k < t.size
        · have hg := Ru.bs_get t k hlt
          have HG := Lib.hid hg
          clear hg
          by_cases h42 : (t[k].toNat : Int) = 42
          · have e1 := Ru.eq_t h42
            clear h42
            go_wp2_with (go_at_call 8; ((with_reducible refine (CA.out _ (Below.refl _ _)).mono ?_); rintro e w4 ⟨rfl, b4⟩))
            go_ret
            exact ⟨rfl, b4⟩
          · have e1 := Ru.eq_f h42
            have HK2 : Hid (∀ j, j < k + 1 → Ru.g (Ru.bs t) j ≠ 42) := Lib.hid fun j hj => by
              by_cases c : j < k
              · exact HK.out j c
              · have : j = k := by omega
                subst this; rw [HG.out]; exact h42
            clear h42
            go_wp2_with fail
            go_round
            case rel => exact ⟨k + 1, by omega, by go_num, HK2⟩
            case measure => simp [RowKit.intOf]; omega
        · have hr : ∀ c ∈ Ru.rd (Ru.bs t), c ≠ 42 := by
            have h1 := not_mem_g (l := Ru.bs t) (c := 42) (fun j hj => HK.out j (by rw [Ru.bs_len] at hj; omega))
            intro c hc e
            subst e
            exact Ru.rd_no42 _ _ (Nat.le_refl _) (Ru.bs_by t) (fun hm => h1 42 hm rfl) hc
          have HR := Lib.hid hr
          clear hr HK
          go_wp2_with fail
          go_loop [35] (fun v => ∃ k : Nat, k ≤ s.size ∧ v = .int .i64 k ∧ Hid (∀ j, j < k → 97 ≤ Ru.g (Ru.bs s) j ∧ Ru.g (Ru.bs s) j ≤ 122)) (fun v => s.size - (RowKit.intOf v).toNat)
          case atStart => exact ⟨0, Nat.zero_le _, rfl, Lib.hid (fun j hj => by omega)⟩
          case round =>
            obtain ⟨i, hi, rfl, HK⟩ := hrel
            by_cases hil : i < s.size
            · have HG := Lib.hid (Ru.bs_get s i hil)
              by_cases c1 : (s[i].toNat : Int) < 97
              · go_wp2_with (go_at_call 8; ((with_reducible refine (CA.out _ (Below.refl _ _)).mono ?_); rintro e w4 ⟨rfl, b4⟩))
                go_ret
                exact ⟨rfl, b4⟩
              · by_cases c2 : 122 < (s[i].toNat : Int)
                · go_wp2_with (go_at_call 8; ((with_reducible refine (CA.out _ (Below.refl _ _)).mono ?_); rintro e w4 ⟨rfl, b4⟩))
                  go_ret
                  exact ⟨rfl, b4⟩
                · have HK2 : Hid (∀ j, j < i + 1 → 97 ≤ Ru.g (Ru.bs s) j ∧ Ru.g (Ru.bs s) j ≤ 122) := Lib.hid fun j hj => by
                    by_cases c : j < i
                    · exact HK.out j c
                    · have : j = i := by omega
                      subst this; rw [HG.out]; omega
                  go_wp2_with fail
                  go_round
                  case rel => exact ⟨i + 1, by omega, by go_num, HK2⟩
                  case measure => simp [RowKit.intOf]; omega
            · by_cases h0 : s.size = 0
              · have hn : s.toList.isEmpty = true := list_none h0
                clear HK HR
                go_wp2_with (go_at_call 8; ((with_reducible refine (CA.out _ (Below.refl _ _)).mono ?_); rintro e w4 ⟨rfl, b4⟩))
                go_ret
                exact ⟨rfl, b4⟩
              · have hn : s.toList.isEmpty = false := list_some h0
                have hlow : Tk.Low (Ru.bs s) := ⟨fun e => h0 (by rw [← Ru.bs_len, e]; rfl), all_g (fun j hj => HK.out j (by rw [Ru.bs_len] at hj; omega))⟩
                have HL := Lib.hid hlow
                clear hlow HK
                have xa : Hid (∀ W, UTab W.heap.size W → _) := Lib.hid fun W h => conv_scan (s ++ ⟨#[47, 42]⟩ ++ t ++ ⟨#[42, 47, 58]⟩ ++ s) W h (by rw [size_of_bs (bs_a s t)]; simp [Ru.bs_len]; omega) [(2, s, 0), (14, ⟨#[]⟩, 0), (2, s, 0)] (by rw [bs_a, Tk.rd_a HL.out, Tk.scan_a HL.out HR.out, str_bs HL.out])
                have xb : Hid (∀ W, UTab W.heap.size W → _) := Lib.hid fun W h => conv_scan (s ++ ⟨#[58]⟩ ++ s) W h (by rw [size_of_bs (bs_b s)]; simp [Ru.bs_len]; omega) [(2, s, 0), (14, ⟨#[]⟩, 0), (2, s, 0)] (by rw [bs_b, Tk.rd_b HL.out, Tk.scan_b HL.out, str_bs HL.out])
                have xc : Hid (∀ W, UTab W.heap.size W → _) := Lib.hid fun W h => conv_scan (s ++ ⟨#[9, 47, 42]⟩ ++ t ++ ⟨#[42, 47, 32, 10]⟩ ++ s) W h (by rw [size_of_bs (bs_c s t)]; simp [Ru.bs_len]; omega) [(2, s, 0), (1, ⟨#[]⟩, 0), (2, s, 0)] (by rw [bs_c, Tk.rd_c HL.out, Tk.scan_c HL.out HR.out, str_bs HL.out])
                have CS : Hid (∀ (A C : Option Addr) (ca cb : Nat) (w1 : World), Ts w1 w1.heap.size A [(2, s, 0), (14, ⟨#[]⟩, 0), (2, s, 0)] → Ts w1 w1.heap.size C [(2, s, 0), (14, ⟨#[]⟩, 0), (2, s, 0)] → Calls Tryd.prog 10 #[.slice A 3 ca, .slice C 3 cb] w1 (Yes w1)) := Lib.hid fun A C ca cb w1 h1 h2 => same_any [(2, s, 0), (14, ⟨#[]⟩, 0), (2, s, 0)] A C ca cb w1 (by simp) h1 h2
                obtain ⟨Ca, na, wa, hca, CSa⟩ := xa.out w HT.out
                clear HL HR xa
                go_wp2_with (first | (go_at_call 9; ((with_reducible refine (CSa.out).mono ?_); rintro e w1 ⟨A1, c1, rfl, k1, B1, b1⟩; obtain ⟨Cb, nb, wb, hcb, CSb⟩ := xb.out w1 (HT.out.next b1); have HB1 := Lib.hid B1; clear CSa B1)) | (go_at_call 9; ((with_reducible refine (CSb.out).mono ?_); rintro e w2 ⟨A2, c2, rfl, k2, B2, b2⟩; obtain ⟨Cc, nc, wc, hcc, CSc⟩ := xc.out w2 ((HT.out.next b1).next b2); have HB2 := Lib.hid B2; clear CSb B2)) | (go_at_call 9; ((with_reducible refine (CSc.out).mono ?_); rintro e w3 ⟨A3, c3, rfl, k3, B3, b3⟩; obtain ⟨bb, off, rfl, hbb, hp⟩ := B3 (by simp); obtain ⟨q0, _, _⟩ : w3.cell? ⟨bb, off + 3, none⟩ = some (.int .i64 1) ∧ _ ∧ _ := hp 1 (by simp); obtain ⟨_, r1, _⟩ : _ ∧ w3.cell? ⟨bb, off + 6 + 1, none⟩ = some (.string s) ∧ _ := hp 2 (by simp); clear CSc B3 hp)) | (go_at_call 10; ((with_reducible refine (CS.out _ _ _ _ _ ((HB1.out.next b2).next b3) (HB2.out.next b3)).mono ?_); rintro e w4 ⟨rfl, b4⟩; have q0' := (b4.cell (p := ⟨bb, off + 3, none⟩) hbb).trans q0; have r1' := (b4.cell (p := ⟨bb, off + 6 + 1, none⟩) hbb).trans r1)) | (go_at_call 8; ((with_reducible refine (CA.out _ (below_next (below_next (below_next b1 b2) b3) b4)).mono ?_); rintro e w5 ⟨rfl, b5⟩)))
                go_ret
                exact ⟨rfl, below_next (below_next (below_next (below_next b1 b2) b3) b4) b5⟩
    · have g3 : 200 < t.size := by omega
      clear hT
      go_enter Tryd.func5, Tryd.ntmps5
      go_wp2_with (go_at_call 8; ((with_reducible refine (CA.out _ (Below.refl _ _)).mono ?_); rintro e w4 ⟨rfl, b4⟩))
      go_ret
      exact ⟨rfl, b4⟩
  · have g3 : 200 < s.size := by omega
    clear hT
    go_enter Tryd.func5, Tryd.ntmps5
    go_wp2_with (go_at_call 8; ((with_reducible refine (CA.out _ (Below.refl _ _)).mono ?_); rintro e w4 ⟨rfl, b4⟩))
    go_ret
    exact ⟨rfl, b4⟩
end Go.Proofs.YtppgklmliklkkaaDoor
