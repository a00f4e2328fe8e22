/-
  The walk of the reference's Read.
-/
import Derived.Test.YtakafhjnkcilkaaDoorRuX
namespace Go.Proofs.YtakafhjnkcilkaaDoor
open Go.RowKit

namespace Ru
/-- the ways of one round of the reference -/
inductive WayQ (r : List Int) (c : Int) (d t : Nat) : Prop
  | other (h : ((c : Int) == 13) = false) (ht : t = d)
  | last (h : ((c : Int) == 13) = true) (h2 : ¬ 1 < r.length) (ht : t = d)
  | lone (h : ((c : Int) == 13) = true) (h2 : 1 < r.length) (h3 : (g r 1 == 10) = false) (ht : t = d)
  | both (h : ((c : Int) == 13) = true) (h2 : 1 < r.length) (h3 : (g r 1 == 10) = true) (ht : t = 2)
theorem wayQ (r : List Int) (hr : r ≠ []) : WayQ r (chL r) (wdL r) (st r) := by
  by_cases h : chL r = 13
  · have hd : wdL r = 1 := by
      have h1 := wdL_int hr
      unfold chL at h
      rw [wd_13 h] at h1
      omega
    unfold st
    rw [hd]
    by_cases h2 : 1 < r.length
    · by_cases h3 : g r 1 = 10
      · exact .both (eq_t h) h2 (eq_t h3) (by rw [if_pos ⟨h, h2, h3⟩])
      · exact .lone (eq_t h) h2 (eq_f h3) (by rw [if_neg (fun hh => h3 hh.2.2)])
    · exact .last (eq_t h) h2 (by rw [if_neg (fun hh => h2 hh.2.1)])
  · exact .other (eq_f h) (by unfold st; rw [if_neg (fun hh => h hh.1)])
end Ru

theorem one_ok {k : IntKind} (x : Int) : ∀ u ∈ [Value.int k x], u.oneCell' = true := by simp [Value.oneCell']
theorem alloc_size {B : Nat} {w : World} (h : B ≤ w.heap.size) (o : Obj) : B ≤ (w.alloc o).heap.size := by simp; omega
/-- at the head of the reference's loop -/
def RReadAt (w : World) (l : List Int) (v0 v3 : Value) (wr : World) : Prop :=
  ∃ (k : Nat) (ds r : List Int) (A : Option Addr) (c' : Nat), Hid (r = l.drop k) ∧ v0 = .slice A r.length c' ∧ r.length ≤ c' ∧ Hid (Bs w w.heap.size .u8 A r) ∧ Hid (Ru.By r) ∧ Hid (Ru.rd l = ds ++ Ru.rd r) ∧ wr.ownsRow w.heap.size 3 1 v3 ds.length (nums .i64 ds) ∧ Below w.heap.size w wr ∧ ds.length + r.length ≤ 65536
def lenOf : Value → Nat
  | .slice _ n _ => n
  | _ => 0

set_option maxHeartbeats 4000000 in
set_option maxRecDepth 100000 in
theorem rread_any (l : List Int) (hl : Ru.By l) (A : Option Addr) (cap : Nat) (w : World) (hm : l.length ≤ 65536) (hcap : l.length ≤ cap) (hA : Bs w w.heap.size .u8 A l) :
    Calls Tryd.prog 14 #[.slice A l.length cap] w (Made .i64 3 (Ru.rd l) w) := by
  obtain ⟨i0, hi, hz0, hz1, hz2⟩ := info_parts Tryd.info3
  have HA := Lib.hid hA
  have HL := Lib.hid hl
  clear hA hl
  go_enter Tryd.func14, Tryd.ntmps14
  go_wp2_with fail
  go_loopw [0, 3] (fun v0 v3 wr => RReadAt w l v0 v3 wr) (fun v0 _ _ => lenOf v0)
  case atStart => exact ⟨0, [], l, A, cap, Lib.hid rfl, rfl, hcap, HA, HL, Lib.hid rfl, World.ownsRow_nil _ _ _ _, Below.refl _ _, by simpa using hm⟩
  case round =>
    obtain ⟨k, ds, r, A', c', hr, rfl, hrc, hBs, hBy, hrd, hown, hbel, hlen⟩ := hrel
    have HO := Lib.hid hown
    have HB := Lib.hid hbel
    clear hown hbel HA HL
    by_cases hlt : 0 < r.length
    · have hne : r ≠ [] := fun e => by rw [e] at hlt; simp at hlt
      obtain ⟨b, off, rfl, hb, hp⟩ := hBs.out hlt
      have CN : Hid (∀ wr : World, Below w.heap.size w wr → Calls Tryd.prog 31 #[.slice (some ⟨b, off, none⟩) r.length c'] wr fun e w' => e = .returned (.tuple #[.int .i64 (Ru.chL r), .int .i64 (Ru.wdL r : Nat)]) ∧ wr = w') := Lib.hid fun wr h =>
        rnext_any r hBy.out hne b off c' wr (by omega) hrc (fun j hj => (h.cell (p := ⟨b, off + j, none⟩) hb).trans (hp j hj))
      have hcell : 1 < r.length → wr.cell? ⟨b, off + 1, none⟩ = some (.int .u8 (Ru.g r 1)) := fun h => (HB.out.cell (p := ⟨b, off + 1, none⟩) hb).trans (hp 1 h)
      have hway := Ru.wayQ r hne
      have hwd := Ru.wdL_le hne
      have hst := Ru.st_le hne
      have hrd' : Hid (Ru.rd l = (ds ++ [Ru.plain (Ru.chL r)]) ++ Ru.rd (r.drop (Ru.st r))) := Lib.hid (by
        rw [hrd.out, Ru.rd_cons hne, List.append_assoc]; rfl)
      have hr' : Hid (r.drop (Ru.st r) = l.drop (k + Ru.st r)) := Lib.hid (by rw [← List.drop_drop, ← hr.out])
      have hB' := hBs.out.from_ (i := Ru.st r) hst.2 c' hrc
      rw [Option.map_some, Addr.add_lit] at hB'
      have hy' : Hid (Ru.By (r.drop (Ru.st r))) := Lib.hid (hBy.out.drop _)
      have hl' : Hid ((r.drop (Ru.st r)).length = r.length - Ru.st r) := Lib.hid (by simp)
      generalize Ru.chL r = c at *
      generalize Ru.wdL r = d at *
      generalize Ru.st r = t at *
      clear hrd hne hr hBs hBy hp
      obtain ⟨d1, d2, d3⟩ := hwd
      obtain ⟨t1, t2⟩ := hst
      have hc3 : ds.length + 1 ≤ maxLen := by unfold maxLen; omega
      have hc4 : (ds.length + 1) * 8 ≤ 140737488355328 := by omega
      rcases hway with ⟨h, rfl⟩ | ⟨h, h2, rfl⟩ | ⟨h, h2, h3, rfl⟩ | ⟨h, h2, h3, rfl⟩
      · clear hcell
        have h13 : ¬ c = 13 := by simpa using h
        by_cases e12 : c = 12
        · subst e12
          have HRD := Lib.hid (show Ru.rd l = (ds ++ [10]) ++ Ru.rd (r.drop t) from hrd'.out)
          clear hrd' h13
          by_cases hct : c' = t
          · obtain rfl : t = c' := hct.symm
            rw [if_pos rfl] at hB'
            have HB' := Lib.hid hB'
            clear hB'
            go_wp2_with (first | (go_at_call 31; ((with_reducible refine (CN.out _ HB.out).mono ?_); rintro e w1 ⟨rfl, rfl⟩)) | (at_builtin; refine wpList_append_own _ rfl _ _ 25 rfl w.heap.size 3 i0 (.int .i64 0) 1 8 Tryd.underlying25 hi hz0 hz1 hz2 rfl (by decide) _ _ _ rfl (HO.out.alloc _) ⟨wr.heap.size, 0, none⟩ 1 1 [.int .i64 (10)] rfl rfl (one_cell _ _) (one_ok _) hc3 hc4 (alloc_size HB.out.size _) ?_; intro v' w3 hown3 hgrow _; have HO3 := Lib.hid (made_next HO.out HB.out (Below.refl _ _) hown3 hgrow); clear hown3 hgrow))
            go_roundw
            case rel => exact ⟨_, ds ++ [10], _, _, _, hr', by first | (rw [hl'.out]; done) | rw [hl'.out, show r.length - t = 0 by omega], by rw [hl'.out]; omega, HB', hy', HRD, HO3.out.1, HO3.out.2, by rw [hl'.out]; simp; omega⟩
            case measure => simp [lenOf]; omega
          · rw [if_neg hct] at hB'
            have HB' := Lib.hid hB'
            clear hB'
            go_wp2_with (first | (go_at_call 31; ((with_reducible refine (CN.out _ HB.out).mono ?_); rintro e w1 ⟨rfl, rfl⟩)) | (at_builtin; refine wpList_append_own _ rfl _ _ 25 rfl w.heap.size 3 i0 (.int .i64 0) 1 8 Tryd.underlying25 hi hz0 hz1 hz2 rfl (by decide) _ _ _ rfl (HO.out.alloc _) ⟨wr.heap.size, 0, none⟩ 1 1 [.int .i64 (10)] rfl rfl (one_cell _ _) (one_ok _) hc3 hc4 (alloc_size HB.out.size _) ?_; intro v' w3 hown3 hgrow _; have HO3 := Lib.hid (made_next HO.out HB.out (Below.refl _ _) hown3 hgrow); clear hown3 hgrow))
            go_roundw
            case rel => exact ⟨_, ds ++ [10], _, _, _, hr', by first | (rw [hl'.out]; done) | rw [hl'.out, show r.length - t = 0 by omega], by rw [hl'.out]; omega, HB', hy', HRD, HO3.out.1, HO3.out.2, by rw [hl'.out]; simp; omega⟩
            case measure => simp [lenOf]; omega
        · have f12 := Ru.eq_f e12
          by_cases e0 : c = 0
          · subst e0
            have HRD := Lib.hid (show Ru.rd l = (ds ++ [65533]) ++ Ru.rd (r.drop t) from hrd'.out)
            clear hrd' h13
            by_cases hct : c' = t
            · obtain rfl : t = c' := hct.symm
              rw [if_pos rfl] at hB'
              have HB' := Lib.hid hB'
              clear hB'
              go_wp2_with (first | (go_at_call 31; ((with_reducible refine (CN.out _ HB.out).mono ?_); rintro e w1 ⟨rfl, rfl⟩)) | (at_builtin; refine wpList_append_own _ rfl _ _ 25 rfl w.heap.size 3 i0 (.int .i64 0) 1 8 Tryd.underlying25 hi hz0 hz1 hz2 rfl (by decide) _ _ _ rfl (HO.out.alloc _) ⟨wr.heap.size, 0, none⟩ 1 1 [.int .i64 (65533)] rfl rfl (one_cell _ _) (one_ok _) hc3 hc4 (alloc_size HB.out.size _) ?_; intro v' w3 hown3 hgrow _; have HO3 := Lib.hid (made_next HO.out HB.out (Below.refl _ _) hown3 hgrow); clear hown3 hgrow))
              go_roundw
              case rel => exact ⟨_, ds ++ [65533], _, _, _, hr', by first | (rw [hl'.out]; done) | rw [hl'.out, show r.length - t = 0 by omega], by rw [hl'.out]; omega, HB', hy', HRD, HO3.out.1, HO3.out.2, by rw [hl'.out]; simp; omega⟩
              case measure => simp [lenOf]; omega
            · rw [if_neg hct] at hB'
              have HB' := Lib.hid hB'
              clear hB'
              go_wp2_with (first | (go_at_call 31; ((with_reducible refine (CN.out _ HB.out).mono ?_); rintro e w1 ⟨rfl, rfl⟩)) | (at_builtin; refine wpList_append_own _ rfl _ _ 25 rfl w.heap.size 3 i0 (.int .i64 0) 1 8 Tryd.underlying25 hi hz0 hz1 hz2 rfl (by decide) _ _ _ rfl (HO.out.alloc _) ⟨wr.heap.size, 0, none⟩ 1 1 [.int .i64 (65533)] rfl rfl (one_cell _ _) (one_ok _) hc3 hc4 (alloc_size HB.out.size _) ?_; intro v' w3 hown3 hgrow _; have HO3 := Lib.hid (made_next HO.out HB.out (Below.refl _ _) hown3 hgrow); clear hown3 hgrow))
              go_roundw
              case rel => exact ⟨_, ds ++ [65533], _, _, _, hr', by first | (rw [hl'.out]; done) | rw [hl'.out, show r.length - t = 0 by omega], by rw [hl'.out]; omega, HB', hy', HRD, HO3.out.1, HO3.out.2, by rw [hl'.out]; simp; omega⟩
              case measure => simp [lenOf]; omega
          · have f0 := Ru.eq_f e0
            have hpl : Ru.plain c = c := by unfold Ru.plain; rw [if_neg (by omega), if_neg e0]
            have HRD := Lib.hid (show Ru.rd l = (ds ++ [c]) ++ Ru.rd (r.drop t) by rw [← hpl]; exact hrd'.out)
            clear hrd' h13 hpl e12 e0
            by_cases hct : c' = t
            · obtain rfl : t = c' := hct.symm
              rw [if_pos rfl] at hB'
              have HB' := Lib.hid hB'
              clear hB'
              go_wp2_with (first | (go_at_call 31; ((with_reducible refine (CN.out _ HB.out).mono ?_); rintro e w1 ⟨rfl, rfl⟩)) | (at_builtin; refine wpList_append_own _ rfl _ _ 25 rfl w.heap.size 3 i0 (.int .i64 0) 1 8 Tryd.underlying25 hi hz0 hz1 hz2 rfl (by decide) _ _ _ rfl (HO.out.alloc _) ⟨wr.heap.size, 0, none⟩ 1 1 [.int .i64 (c)] rfl rfl (one_cell _ _) (one_ok _) hc3 hc4 (alloc_size HB.out.size _) ?_; intro v' w3 hown3 hgrow _; have HO3 := Lib.hid (made_next HO.out HB.out (Below.refl _ _) hown3 hgrow); clear hown3 hgrow))
              go_roundw
              case rel => exact ⟨_, ds ++ [c], _, _, _, hr', by first | (rw [hl'.out]; done) | rw [hl'.out, show r.length - t = 0 by omega], by rw [hl'.out]; omega, HB', hy', HRD, HO3.out.1, HO3.out.2, by rw [hl'.out]; simp; omega⟩
              case measure => simp [lenOf]; omega
            · rw [if_neg hct] at hB'
              have HB' := Lib.hid hB'
              clear hB'
              go_wp2_with (first | (go_at_call 31; ((with_reducible refine (CN.out _ HB.out).mono ?_); rintro e w1 ⟨rfl, rfl⟩)) | (at_builtin; refine wpList_append_own _ rfl _ _ 25 rfl w.heap.size 3 i0 (.int .i64 0) 1 8 Tryd.underlying25 hi hz0 hz1 hz2 rfl (by decide) _ _ _ rfl (HO.out.alloc _) ⟨wr.heap.size, 0, none⟩ 1 1 [.int .i64 (c)] rfl rfl (one_cell _ _) (one_ok _) hc3 hc4 (alloc_size HB.out.size _) ?_; intro v' w3 hown3 hgrow _; have HO3 := Lib.hid (made_next HO.out HB.out (Below.refl _ _) hown3 hgrow); clear hown3 hgrow))
              go_roundw
              case rel => exact ⟨_, ds ++ [c], _, _, _, hr', by first | (rw [hl'.out]; done) | rw [hl'.out, show r.length - t = 0 by omega], by rw [hl'.out]; omega, HB', hy', HRD, HO3.out.1, HO3.out.2, by rw [hl'.out]; simp; omega⟩
              case measure => simp [lenOf]; omega
      · have hpl : Ru.plain c = 10 := by unfold Ru.plain; rw [if_pos (Or.inl (by simpa using h))]
        have HRD := Lib.hid (show Ru.rd l = (ds ++ [10]) ++ Ru.rd (r.drop t) by rw [← hpl]; exact hrd'.out)
        clear hrd' hpl
        clear hcell
        by_cases hct : c' = t
        · obtain rfl : t = c' := hct.symm
          rw [if_pos rfl] at hB'
          have HB' := Lib.hid hB'
          clear hB'
          go_wp2_with (first | (go_at_call 31; ((with_reducible refine (CN.out _ HB.out).mono ?_); rintro e w1 ⟨rfl, rfl⟩)) | (at_builtin; refine wpList_append_own _ rfl _ _ 25 rfl w.heap.size 3 i0 (.int .i64 0) 1 8 Tryd.underlying25 hi hz0 hz1 hz2 rfl (by decide) _ _ _ rfl (HO.out.alloc _) ⟨wr.heap.size, 0, none⟩ 1 1 [.int .i64 (10)] rfl rfl (one_cell _ _) (one_ok _) hc3 hc4 (alloc_size HB.out.size _) ?_; intro v' w3 hown3 hgrow _; have HO3 := Lib.hid (made_next HO.out HB.out (Below.refl _ _) hown3 hgrow); clear hown3 hgrow))
          go_roundw
          case rel => exact ⟨_, ds ++ [10], _, _, _, hr', by first | (rw [hl'.out]; done) | rw [hl'.out, show r.length - t = 0 by omega], by rw [hl'.out]; omega, HB', hy', HRD, HO3.out.1, HO3.out.2, by rw [hl'.out]; simp; omega⟩
          case measure => simp [lenOf]; omega
        · rw [if_neg hct] at hB'
          have HB' := Lib.hid hB'
          clear hB'
          go_wp2_with (first | (go_at_call 31; ((with_reducible refine (CN.out _ HB.out).mono ?_); rintro e w1 ⟨rfl, rfl⟩)) | (at_builtin; refine wpList_append_own _ rfl _ _ 25 rfl w.heap.size 3 i0 (.int .i64 0) 1 8 Tryd.underlying25 hi hz0 hz1 hz2 rfl (by decide) _ _ _ rfl (HO.out.alloc _) ⟨wr.heap.size, 0, none⟩ 1 1 [.int .i64 (10)] rfl rfl (one_cell _ _) (one_ok _) hc3 hc4 (alloc_size HB.out.size _) ?_; intro v' w3 hown3 hgrow _; have HO3 := Lib.hid (made_next HO.out HB.out (Below.refl _ _) hown3 hgrow); clear hown3 hgrow))
          go_roundw
          case rel => exact ⟨_, ds ++ [10], _, _, _, hr', by first | (rw [hl'.out]; done) | rw [hl'.out, show r.length - t = 0 by omega], by rw [hl'.out]; omega, HB', hy', HRD, HO3.out.1, HO3.out.2, by rw [hl'.out]; simp; omega⟩
          case measure => simp [lenOf]; omega
      · have hpl : Ru.plain c = 10 := by unfold Ru.plain; rw [if_pos (Or.inl (by simpa using h))]
        have HRD := Lib.hid (show Ru.rd l = (ds ++ [10]) ++ Ru.rd (r.drop t) by rw [← hpl]; exact hrd'.out)
        clear hrd' hpl
        replace hcell := hcell h2
        by_cases hct : c' = t
        · obtain rfl : t = c' := hct.symm
          rw [if_pos rfl] at hB'
          have HB' := Lib.hid hB'
          clear hB'
          go_wp2_with (first | (go_at_call 31; ((with_reducible refine (CN.out _ HB.out).mono ?_); rintro e w1 ⟨rfl, rfl⟩)) | (at_builtin; refine wpList_append_own _ rfl _ _ 25 rfl w.heap.size 3 i0 (.int .i64 0) 1 8 Tryd.underlying25 hi hz0 hz1 hz2 rfl (by decide) _ _ _ rfl (HO.out.alloc _) ⟨wr.heap.size, 0, none⟩ 1 1 [.int .i64 (10)] rfl rfl (one_cell _ _) (one_ok _) hc3 hc4 (alloc_size HB.out.size _) ?_; intro v' w3 hown3 hgrow _; have HO3 := Lib.hid (made_next HO.out HB.out (Below.refl _ _) hown3 hgrow); clear hown3 hgrow))
          go_roundw
          case rel => exact ⟨_, ds ++ [10], _, _, _, hr', by first | (rw [hl'.out]; done) | rw [hl'.out, show r.length - t = 0 by omega], by rw [hl'.out]; omega, HB', hy', HRD, HO3.out.1, HO3.out.2, by rw [hl'.out]; simp; omega⟩
          case measure => simp [lenOf]; omega
        · rw [if_neg hct] at hB'
          have HB' := Lib.hid hB'
          clear hB'
          go_wp2_with (first | (go_at_call 31; ((with_reducible refine (CN.out _ HB.out).mono ?_); rintro e w1 ⟨rfl, rfl⟩)) | (at_builtin; refine wpList_append_own _ rfl _ _ 25 rfl w.heap.size 3 i0 (.int .i64 0) 1 8 Tryd.underlying25 hi hz0 hz1 hz2 rfl (by decide) _ _ _ rfl (HO.out.alloc _) ⟨wr.heap.size, 0, none⟩ 1 1 [.int .i64 (10)] rfl rfl (one_cell _ _) (one_ok _) hc3 hc4 (alloc_size HB.out.size _) ?_; intro v' w3 hown3 hgrow _; have HO3 := Lib.hid (made_next HO.out HB.out (Below.refl _ _) hown3 hgrow); clear hown3 hgrow))
          go_roundw
          case rel => exact ⟨_, ds ++ [10], _, _, _, hr', by first | (rw [hl'.out]; done) | rw [hl'.out, show r.length - t = 0 by omega], by rw [hl'.out]; omega, HB', hy', HRD, HO3.out.1, HO3.out.2, by rw [hl'.out]; simp; omega⟩
          case measure => simp [lenOf]; omega
      · have hpl : Ru.plain c = 10 := by unfold Ru.plain; rw [if_pos (Or.inl (by simpa using h))]
        have HRD := Lib.hid (show Ru.rd l = (ds ++ [10]) ++ Ru.rd (r.drop 2) by rw [← hpl]; exact hrd'.out)
        clear hrd' hpl
        replace hcell := hcell h2
        by_cases hct : c' = 2
        · subst hct
          rw [if_pos rfl] at hB'
          have HB' := Lib.hid hB'
          clear hB'
          go_wp2_with (first | (go_at_call 31; ((with_reducible refine (CN.out _ HB.out).mono ?_); rintro e w1 ⟨rfl, rfl⟩)) | (at_builtin; refine wpList_append_own _ rfl _ _ 25 rfl w.heap.size 3 i0 (.int .i64 0) 1 8 Tryd.underlying25 hi hz0 hz1 hz2 rfl (by decide) _ _ _ rfl (HO.out.alloc _) ⟨wr.heap.size, 0, none⟩ 1 1 [.int .i64 (10)] rfl rfl (one_cell _ _) (one_ok _) hc3 hc4 (alloc_size HB.out.size _) ?_; intro v' w3 hown3 hgrow _; have HO3 := Lib.hid (made_next HO.out HB.out (Below.refl _ _) hown3 hgrow); clear hown3 hgrow))
          go_roundw
          case rel => exact ⟨_, ds ++ [10], _, _, _, hr', by first | (rw [hl'.out]; done) | rw [hl'.out, show r.length - 2 = 0 by omega], by rw [hl'.out]; omega, HB', hy', HRD, HO3.out.1, HO3.out.2, by rw [hl'.out]; simp; omega⟩
          case measure => simp [lenOf]; omega
        · rw [if_neg hct] at hB'
          have HB' := Lib.hid hB'
          clear hB'
          go_wp2_with (first | (go_at_call 31; ((with_reducible refine (CN.out _ HB.out).mono ?_); rintro e w1 ⟨rfl, rfl⟩)) | (at_builtin; refine wpList_append_own _ rfl _ _ 25 rfl w.heap.size 3 i0 (.int .i64 0) 1 8 Tryd.underlying25 hi hz0 hz1 hz2 rfl (by decide) _ _ _ rfl (HO.out.alloc _) ⟨wr.heap.size, 0, none⟩ 1 1 [.int .i64 (10)] rfl rfl (one_cell _ _) (one_ok _) hc3 hc4 (alloc_size HB.out.size _) ?_; intro v' w3 hown3 hgrow _; have HO3 := Lib.hid (made_next HO.out HB.out (Below.refl _ _) hown3 hgrow); clear hown3 hgrow))
          go_roundw
          case rel => exact ⟨_, ds ++ [10], _, _, _, hr', by first | (rw [hl'.out]; done) | rw [hl'.out, show r.length - 2 = 0 by omega], by rw [hl'.out]; omega, HB', hy', HRD, HO3.out.1, HO3.out.2, by rw [hl'.out]; simp; omega⟩
          case measure => simp [lenOf]; omega
    · have hr0 : r = [] := List.eq_nil_of_length_eq_zero (by omega)
      have hd : Ru.rd l = ds := by rw [hrd.out, hr0, Ru.rd_nil, List.append_nil]
      have HD := Lib.hid hd
      clear hd hrd hr0
      go_wp2_with fail
      go_ret
      exact ⟨_, rfl, by rw [HD.out]; exact HO.out, HB.out⟩
end Go.Proofs.YtakafhjnkcilkaaDoor
