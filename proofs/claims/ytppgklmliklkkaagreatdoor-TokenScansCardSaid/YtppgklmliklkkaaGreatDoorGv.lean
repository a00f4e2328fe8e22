/-
  The walk of the reference's Scan.
-/
import Derived.Test.YtppgklmliklkkaaGreatDoorGp4
import Derived.Test.YtppgklmliklkkaaGreatDoorGu0
import Derived.Test.YtppgklmliklkkaaGreatDoorGo
import Derived.Test.YtppgklmliklkkaaGreatDoorGj
import Derived.Deep.Cut
import Derived.Deep.CutRange
import Derived.Deep.DeepCutAuto
import Derived.Test.YtppgklmliklkkaaGreatDoorGu
namespace Go.Proofs.YtppgklmliklkkaaGreatDoor
open Go.RowKit

def ScanAt (l : List Int) (w1 : World) (v5 v6 : Value) (wr : World) : Prop :=
  ∃ (k : Nat) (ts : List Tk.Tok), k ≤ l.length ∧ v6 = .int .i64 k ∧ Hid (Tk.scan l 0 = ts ++ Tk.scan l k) ∧ wr.ownsRow w1.heap.size 31 3 v5 ts.length (Tk.cells ts) ∧ Hid (Below w1.heap.size w1 wr) ∧ ts.length ≤ 2 * k
/-- behind the gap -/
def MidAt (w1 : World) (ts : List Tk.Tok) (v5 : Value) (wr : World) : Prop :=
  Hid (wr.ownsRow w1.heap.size 31 3 v5 ts.length (Tk.cells ts)) ∧ Hid (Below w1.heap.size w1 wr)

set_option maxHeartbeats 4000000 in
set_option maxRecDepth 100000 in
theorem tscan_any (bl : List Int) (hl : Ru.By bl) (A : Option Addr) (cap : Nat) (w : World) (hm : bl.length ≤ 2000) (hcap : bl.length ≤ cap) (hA : Bs w w.heap.size .u8 A bl) :
    Calls Tryz.prog 6 #[.slice A bl.length cap] w (Toks (Tk.scan (Ru.rd bl) 0) w) := by
  obtain ⟨i0, hi, hz0, hz1, hz2⟩ := info_parts Tryz.infoTok
  have CR := Lib.hid ((rread_any bl hl A cap w (by omega) hcap hA).mono fun _ _ h => told h)
  have HN : Hid (∀ c ∈ Ru.rd bl, 0 ≤ c) := Lib.hid fun c hc => (Tk.rd_chr hl c hc).1
  have hm2 := Ru.rd_len' bl
  clear hA hl
  generalize Ru.rd bl = l at *
  go_enter Tryz.func6, Tryz.ntmps6
  go_wp2_with (go_at_call 12; ((with_reducible refine (CR.out).mono ?_); rintro e w1 ⟨A1, c1, rfl, hc1, hB1, b1⟩))
  have HB1 := Lib.hid hB1
  have hs1 := b1.size
  have Hb1 := Lib.hid b1
  clear hB1 b1
  go_loopw [5, 6] (fun v5 v6 wr => ScanAt l w1 v5 v6 wr) (fun _ v6 _ => l.length - (RowKit.intOf v6).toNat)
  case atStart => exact ⟨0, [], by omega, rfl, Lib.hid rfl, World.ownsRow_nil _ _ _ _, Lib.hid (Below.refl _ _), by simp⟩
  case round =>
    obtain ⟨k, ts, hk, rfl, hd, hown, HB, hts⟩ := hrel
    have HO := Lib.hid hown
    clear hown
    by_cases hlt : k < l.length
    · obtain ⟨b, off, rfl, hb, hp⟩ := HB1.out (by omega)
      have HP : Hid (On w1 l b off) := Lib.hid hp
      clear hp
      have S0 := Lib.hid (tspaces_any l k b off c1 wr (by omega) hk (HP.out.below hb HB.out))
      have CN : Hid (∀ wx, Below w1.heap.size w1 wx → ∀ k' : Nat, k' < l.length → Calls Tryz.prog 14 #[.slice (some ⟨b, off, none⟩) l.length c1, .int .i64 k'] wx (Nexted (Tk.nxt l k') wx)) := Lib.hid fun wx hx k' hk' => tnext_any l k' b off c1 wx (by omega) hk' HN.out (Nat.lt_of_lt_of_le hb hx.size) (HP.out.below hb hx)
      have hsp := Tk.sp_le l k false hk
      have HD : Hid (Tk.scan l 0 = (ts ++ Tk.spTok (Tk.sp l k false).2) ++ Tk.scan l (Tk.sp l k false).1) := Lib.hid (by rw [hd.out, Tk.scan_gap hlt, List.append_assoc])
      have HS2 := Lib.hid (Tk.sp_again false false hk)
      clear hd HP
      generalize Tk.sp l k false = s at *
      obtain ⟨k1, sb⟩ := s
      simp only at HD S0 hsp HS2
      go_upto_if 27 with (go_at_call 13; ((with_reducible refine (S0.out).mono ?_); rintro e w' ⟨rfl, rfl⟩))
      go_cut [5] (fun s5 wc => MidAt w1 (ts ++ Tk.spTok sb) s5 wc)
      case first =>
        clear CN HD HS2
        have hc3 : ts.length + 1 ≤ maxLen := by unfold maxLen; omega
        have hc4 : (ts.length + 1) * 32 ≤ 140737488355328 := by omega
        cases sb
        · go_wp2_with fail
          go_meet
          exact ⟨by simp only [Tk.spTok, Bool.false_eq_true, if_false, List.append_nil]; exact HO, HB⟩
        · go_wp2_with (at_builtin; have E1 := HO.out.alloc (.cells #[.int .i64 (1), .string (⟨#[]⟩), .int .i64 (0)] 31); have E2 : w1.heap.size ≤ (wr.alloc (.cells #[.int .i64 (1), .string (⟨#[]⟩), .int .i64 (0)] 31)).heap.size := (by have := HB.out.size; simp; omega); refine wpList_append_own _ rfl _ _ 24 rfl w1.heap.size 31 i0 zTok 3 32 Tryz.underlying24 hi hz0 hz1 hz2 rfl (by decide) _ _ _ rfl E1 ⟨wr.heap.size, 0, none⟩ 1 1 [.int .i64 (1), .string (⟨#[]⟩), .int .i64 (0)] rfl rfl (three_cell _ _ (by simp) _ _ _) (three_ok _ _ _) hc3 hc4 E2 ?_; intro v' w3 hown3 hgrow _; have HO3 := Lib.hid (cells_next (t := (1, ⟨#[]⟩, 0)) hown3); have HB3 := Lib.hid ((HB.out.alloc HB.out.size (.cells #[.int .i64 (1), .string (⟨#[]⟩), .int .i64 (0)] 31)).grown hgrow E2 (fun x hx => (HO.out.lt x hx).1)); clear hown3 hgrow E1 E2)
          go_meet
          exact ⟨HO3, HB3⟩
      case rest =>

        obtain ⟨HO, HB⟩ := hcut
        have hl2 : (ts ++ Tk.spTok sb).length ≤ 2 * k + 1 := by have := Tk.spTok_len sb; rw [List.length_append]; omega
        generalize ts ++ Tk.spTok sb = us at *
        clear hts S0
        by_cases h2 : k1 < l.length
        · have hnx := Tk.nxt_le h2
          have hc3 : us.length + 1 ≤ maxLen := by unfold maxLen; omega
          have hc4 : (us.length + 1) * 32 ≤ 140737488355328 := by omega
          have HE : Hid (Tk.scan l 0 = (us ++ [Tk.tokOf (Tk.nxt l k1)]) ++ Tk.scan l (Tk.nxt l k1).2.2.2) := Lib.hid (by
            have h3 := Tk.scan_on h2 (by rw [HS2.out]; exact h2)
            rw [HS2.out] at h3
            rw [HD.out, h3]; simp [Tk.spTok])
          have CX : Hid (∀ wx, Below w1.heap.size w1 wx → Calls Tryz.prog 14 #[.slice (some ⟨b, off, none⟩) l.length c1, .int .i64 k1] wx (Nexted (Tk.nxt l k1) wx)) := Lib.hid fun wx hx => CN.out wx hx _ h2
          clear HD HS2 CN
          generalize Tk.nxt l k1 = r at *
          obtain ⟨rk, rt, rn, re⟩ := r
          simp only at HE CX hnx
          go_wp2_with (first | (go_at_call 14; have X := CX.out _ HB.out; (with_reducible refine X.mono ?_); clear X; rintro e w4 ⟨he, b4⟩; unfold tokV at he; subst he) | (at_builtin; have E1 := ((kept_below HO.out b4 (Nat.le_refl _)).alloc (.cells #[.int .i64 (rk), .string (rt), .int .i64 (rn)] 31)).alloc (.cells #[.int .i64 (rk), .string (rt), .int .i64 (rn)] 31); have E2 : w1.heap.size ≤ ((w4.alloc (.cells #[.int .i64 (rk), .string (rt), .int .i64 (rn)] 31)).alloc (.cells #[.int .i64 (rk), .string (rt), .int .i64 (rn)] 31)).heap.size := (by have := HB.out.size; have := b4.size; simp; omega); refine wpList_append_own _ rfl _ _ 24 rfl w1.heap.size 31 i0 zTok 3 32 Tryz.underlying24 hi hz0 hz1 hz2 rfl (by decide) _ _ _ rfl E1 ⟨w4.heap.size + 1, 0, none⟩ 1 1 [.int .i64 (rk), .string (rt), .int .i64 (rn)] rfl rfl (three_cell _ _ (by simp) _ _ _) (three_ok _ _ _) hc3 hc4 E2 ?_; intro v' w3 hown3 hgrow _; have HO3 := Lib.hid (cells_next (t := (rk, rt, rn)) hown3); have HB3 := Lib.hid ((((HB.out.trans (b4.mono HB.out.size)).alloc (Nat.le_trans HB.out.size b4.size) (.cells #[.int .i64 (rk), .string (rt), .int .i64 (rn)] 31)).alloc (by have := HB.out.size; have := b4.size; simp; omega) (.cells #[.int .i64 (rk), .string (rt), .int .i64 (rn)] 31)).grown hgrow E2 (fun x hx => (HO.out.lt x hx).1)); clear hown3 hgrow E1 E2))
          go_roundw
          case rel => exact ⟨re, us ++ [(rk, rt, rn)], hnx.2, rfl, HE, HO3.out, HB3, by simp; omega⟩
          case measure => simp [RowKit.intOf]; omega
        · have HE : Hid (Tk.scan l 0 = us ++ Tk.scan l k1) := HD
          clear HD HS2 CN
          go_wp2_with fail
          go_roundw
          case rel => exact ⟨k1, us, hsp.2, rfl, HE, HO.out, HB, by omega⟩
          case measure => simp [RowKit.intOf]; omega
    · have HD : Hid (Tk.scan l 0 = ts) := Lib.hid (by rw [hd.out, Tk.scan_end hlt, List.append_nil])
      clear hd
      have hk' : k = l.length := by omega
      obtain ⟨A5, c5, hv, _⟩ := row_slice HO.out
      subst hv
      go_wp2_with fail
      go_ret2
      exact ⟨_, rfl, by rw [HD.out]; exact own_le HO.out hs1, Hb1.out.trans (HB.out.mono hs1)⟩
end Go.Proofs.YtppgklmliklkkaaGreatDoor

/-
  The walk of the law TokenScans.
-/
namespace Go.Proofs.YtppgklmliklkkaaGreatDoor
open Go.RowKit

set_option maxHeartbeats 2000000 in
set_option maxRecDepth 100000 in
theorem tokenScans_walk (l : List Int) (hl : Ru.By l) (A : Option Addr) (cap : Nat) (w : World) (hm : l.length ≤ cap) (hT : UTab w.heap.size w) (hA : Bs w w.heap.size .u8 A l) :
    Calls Tryz.prog 3 #[.slice A l.length cap] w (Yes w) := by

  have CA : Hid (∀ w1, Below w.heap.size w w1 → Calls Tryz.prog 4 #[] w1 (Yes w1)) := Lib.hid fun w1 h => awake_any w1 (hT.next h)
  by_cases h1 : l.length ≤ 2000
  · have C1 := Lib.hid (scan_told l hl A cap w (by omega) hm hT hA)
    have C2 : Hid (∀ w1, Below w.heap.size w w1 → Calls Tryz.prog 6 #[.slice A l.length cap] w1 (Told3 (Tk.scan (Ru.rd l) 0) w1)) := Lib.hid fun w1 h => (tscan_any l hl A cap w1 h1 hm (hA.next h)).mono fun _ _ h => told3 h
    have hsl := Tk.scan_len (Ru.rd l) _ 0 (Nat.le_refl _)
    have hrl := Ru.rd_len' l
    have hts : (Tk.scan (Ru.rd l) 0).length ≤ 65536 := by omega
    clear hl hT hA hsl hrl
    generalize Tk.scan (Ru.rd l) 0 = ts at *
    have CS : Hid (∀ (A C : Option Addr) (ca cb : Nat) (w1 : World), Ts w1 w1.heap.size A ts → Ts w1 w1.heap.size C ts → Calls Tryz.prog 7 #[.slice A ts.length ca, .slice C ts.length cb] w1 (Yes w1)) := Lib.hid fun A C ca cb w1 h1 h2 => same_any ts A C ca cb w1 hts h1 h2
    go_enter Tryz.func3, Tryz.ntmps3
    go_wp2_with (first | (go_at_call 5; ((with_reducible refine (C1.out).mono ?_); rintro e w1 ⟨A1, c1, rfl, k1, B1, b1⟩)) | (go_at_call 6; ((with_reducible refine (C2.out _ b1).mono ?_); rintro e w2 ⟨A2, c2, rfl, k2, B2, b2⟩)) | (go_at_call 7; ((with_reducible refine (CS.out _ _ _ _ _ (B1.next b2) B2).mono ?_); rintro e w3 ⟨rfl, b3⟩)) | (go_at_call 4; ((with_reducible refine (CA.out _ (below_next (below_next b1 b2) b3)).mono ?_); rintro e w4 ⟨rfl, b4⟩)))
    go_ret
    exact ⟨rfl, below_next (below_next (below_next b1 b2) b3) b4⟩
  · by_cases h2 : l.length ≤ 65536
    · have h3 : 2000 < l.length := by omega
      clear hl hT hA h1
      go_enter Tryz.func3, Tryz.ntmps3
      go_wp2_with (go_at_call 4; ((with_reducible refine (CA.out _ (Below.refl _ _)).mono ?_); rintro e w4 ⟨rfl, b4⟩))
      go_ret
      exact ⟨rfl, b4⟩
    · have h3 : 65536 < l.length := by omega
      have C1 := Lib.hid (scan_long l.length A cap w h3)
      clear hl hT hA h1 h2
      go_enter Tryz.func3, Tryz.ntmps3
      go_wp2_with (first | (go_at_call 5; ((with_reducible refine (C1.out).mono ?_); rintro e w1 ⟨rfl, rfl⟩)) | (go_at_call 4; ((with_reducible refine (CA.out _ (Below.refl _ _)).mono ?_); rintro e w4 ⟨rfl, b4⟩)))
      go_ret
      exact ⟨rfl, b4⟩
end Go.Proofs.YtppgklmliklkkaaGreatDoor
