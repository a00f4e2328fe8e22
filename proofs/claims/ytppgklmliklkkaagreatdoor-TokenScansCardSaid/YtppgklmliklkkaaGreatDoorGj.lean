/-
  The walks of the reference's Bytes and Write.
-/
import Derived.Test.YtppgklmliklkkaaGreatDoorGh
import Derived.Test.YtppgklmliklkkaaGreatDoorGi
namespace Go.Proofs.YtppgklmliklkkaaGreatDoor
open Go.RowKit

/-- a slice that reads as numbers, in what is new -/
def Fresh (k : IntKind) (l : List Int) (w : World) (e : Ending) (w' : World) : Prop :=
  ∃ (b cap : Nat), e = .returned (.slice (some ⟨b, 0, none⟩) l.length cap) ∧ (∀ j u, (nums k l)[j]? = some u → w'.cell? ((⟨b, 0, none⟩ : Addr).add j) = some u) ∧ Below w.heap.size w w'
theorem fresh_made {w : World} {k : IntKind} {l : List Int} {E : TypeId} (v : Ending) (h : v = .returned (.slice (some ⟨w.heap.size, 0, none⟩) l.length l.length)) : Fresh k l w v (w.alloc (.cells (nums k l).toArray E)) := by
  refine ⟨w.heap.size, l.length, h, fun j u hj => ?_, (Below.refl _ _).alloc (Nat.le_refl _) _⟩
  rw [Addr.add_lit, cell_of_row _ _ _ (nums k l).toArray E (0, 0) (heap_alloc_new w _)]
  simpa using hj

set_option maxHeartbeats 1000000 in
theorem bytes_any (c : Int) (w : World) (h : Ru.Is c) :
    Calls Tryz.prog 78 #[.int .i64 c] w (Fresh .u8 (Lib.encodeRuneZ c) w) := by
  unfold Ru.Is at h
  by_cases h1 : c < 128
  · have e := Lib.encodeRuneZ_one h.1 (by omega : c ≤ 127)
    rw [e]
    have q0 : 0 ≤ c := h.1
    clear e h
    go_enter Tryz.func78, Tryz.ntmps78
    go_wp2_with fail
    go_ret
    exact fresh_made _ rfl
  · by_cases h2 : c < 2048
    · have e := Lib.encodeRuneZ_two (by omega : 128 ≤ c) (by omega)
      rw [e]
      clear e h
      go_enter Tryz.func78, Tryz.ntmps78
      go_wp2_with fail
      go_ret
      exact fresh_made _ rfl
    · by_cases h3 : c < 65536
      · have e := Lib.encodeRuneZ_three (r := c) (by omega)
        rw [e]
        clear e h
        go_enter Tryz.func78, Tryz.ntmps78
        go_wp2_with fail
        go_ret
        exact fresh_made _ rfl
      · have e := Lib.encodeRuneZ_four (r := c) (by omega) (by omega)
        rw [e]
        have q1 : c ≤ 1114111 := by omega
        clear e h
        go_enter Tryz.func78, Tryz.ntmps78
        go_wp2_with fail
        go_ret
        exact fresh_made _ rfl

theorem enc_bad {c : Int} (h : ¬ Ru.Is c) : Lib.encodeRuneZ 65533 = Lib.encodeRuneZ c := by
  unfold Ru.Is at h
  rw [Lib.encodeRuneZ_bad (r := c) (by omega)]
  decide

theorem rwrite_next {w wr wb w3 : World} {v v' : Value} {l : List Int} {k : Nat} {x : Int} (hk : l.take (k + 1) = l.take k ++ [x])
    (hown : wr.ownsRow w.heap.size 5 1 v (Ru.wr (l.take k)).length (nums .u8 (Ru.wr (l.take k)))) (hbel : Below w.heap.size w wr) (hb : Below wr.heap.size wr wb)
    (hown3 : w3.ownsRow w.heap.size 5 1 v' ((Ru.wr (l.take k)).length + (Lib.encodeRuneZ x).length) (nums .u8 (Ru.wr (l.take k)) ++ nums .u8 (Lib.encodeRuneZ x))) (hgrow : wb.grownBy w3 v.ownBlock) :
    w3.ownsRow w.heap.size 5 1 v' (Ru.wr (l.take (k + 1))).length (nums .u8 (Ru.wr (l.take (k + 1)))) ∧ Below w.heap.size w w3 := by
  refine ⟨?_, ?_⟩
  · rw [hk, Ru.wr_snoc, nums_app, List.length_append]
    exact hown3
  · have hs := hbel.size
    have hs2 := hb.size
    exact (hbel.trans (hb.mono hs)).grown hgrow (by omega) (fun j hj => (hown.lt j hj).1)
theorem nums_size (k : IntKind) (l : List Int) : (nums k l).length = l.length * 1 := by rw [nums_len]; omega

set_option maxHeartbeats 1000000 in
set_option maxRecDepth 100000 in
theorem rwrite_any (l : List Int) (A : Option Addr) (cap : Nat) (w : World) (hm : l.length ≤ 65536) (hcap : l.length ≤ cap) (hA : Bs w w.heap.size .i64 A l) :
    Calls Tryz.prog 63 #[.slice A l.length cap] w (Made .u8 5 (Ru.wr l) w) := by
  obtain ⟨i0, hi, hz0, hz1, hz2⟩ := info_parts Tryz.info5
  have CB : Hid (∀ (c x : Int) (wq : World), Ru.Is c → Lib.encodeRuneZ c = Lib.encodeRuneZ x → Calls Tryz.prog 78 #[.int .i64 c] wq (Fresh .u8 (Lib.encodeRuneZ x) wq)) :=
    Lib.hid fun c x wq h1 h2 => by rw [← h2]; exact bytes_any c wq h1
  have HA := Lib.hid hA
  clear hA
  by_cases h0 : 0 < l.length
  · obtain ⟨b, off, rfl, hb, hp⟩ := HA.out h0
    have HP := Lib.hid hp
    clear hp HA
    go_enter Tryz.func63, Tryz.ntmps63
    go_wp2_with fail
    go_loopw [3, 4] (fun v3 v4 wr => WriteAt w l v3 v4 wr) (fun _ v4 _ => l.length - (RowKit.intOf v4).toNat)
    case atStart => exact ⟨0, Nat.zero_le _, rfl, World.ownsRow_nil _ _ _ _, Below.refl _ _⟩
    case round =>
      obtain ⟨k, hk, rfl, hown, hbel⟩ := hrel
      have HO := Lib.hid hown
      have HB := Lib.hid hbel
      clear hown hbel
      by_cases hlt : k < l.length
      · have hcell := (HB.out.cell (p := ⟨b, off + k, none⟩) hb).trans (HP.out k hlt)
        have HN := Lib.hid (Ru.take_g hlt)
        have hle := Lib.encodeRuneZ_length (Ru.g l k)
        have hc0 : (Ru.wr (l.take k)).length + 4 ≤ 1000000 := by have := Ru.wr_len (l.take k); have := List.length_take_le k l; omega
        have hc3 : (Ru.wr (l.take k)).length + (Lib.encodeRuneZ (Ru.g l k)).length ≤ maxLen := by unfold maxLen; omega
        have hc4 : ((Ru.wr (l.take k)).length + (Lib.encodeRuneZ (Ru.g l k)).length) * 1 ≤ 140737488355328 := by omega
        clear hle hc0
        cases his : Ru.isB (Ru.g l k)
        · have hbad : ¬ Ru.Is (Ru.g l k) := fun h => by rw [Ru.isB_iff.2 h] at his; cases his
          have C' := Lib.hid (fun wq => CB.out 65533 (Ru.g l k) wq (by unfold Ru.Is; omega) (enc_bad hbad))
          clear hbad CB
          generalize Ru.g l k = x at *
          go_wp2_with (first | (go_at_call 77; ((with_reducible refine (ris_any _ _).mono ?_); rintro e w' ⟨rfl, rfl⟩)) | (go_at_call 78; ((with_reducible refine (C'.out _).mono ?_); rintro e wb ⟨bb, bc, rfl, hcs, hbb⟩)) | (at_builtin; refine wpList_append_own _ rfl _ _ 22 rfl w.heap.size 5 i0 (.int .u8 0) 1 1 Tryz.underlying22 hi hz0 hz1 hz2 rfl (by decide) _ _ _ rfl (kept_below HO.out hbb (Nat.le_refl _)) ⟨bb, 0, none⟩ _ bc (nums .u8 (Lib.encodeRuneZ x)) rfl (nums_size _ _) hcs (nums_one _ _) hc3 hc4 (Nat.le_trans HB.out.size hbb.size) ?_; intro v' w3 hown3 hgrow _; have HO3 := Lib.hid (rwrite_next HN.out HO.out HB.out hbb hown3 hgrow); clear hown3 hgrow hcs hbb))
          go_roundw
          case rel => exact ⟨k + 1, by omega, by go_num, HO3.out.1, HO3.out.2⟩
          case measure => simp [RowKit.intOf]; omega
        · have C' := Lib.hid (fun wq => CB.out (Ru.g l k) (Ru.g l k) wq (Ru.isB_iff.1 his) rfl)
          clear CB
          generalize Ru.g l k = x at *
          go_wp2_with (first | (go_at_call 77; ((with_reducible refine (ris_any _ _).mono ?_); rintro e w' ⟨rfl, rfl⟩)) | (go_at_call 78; ((with_reducible refine (C'.out _).mono ?_); rintro e wb ⟨bb, bc, rfl, hcs, hbb⟩)) | (at_builtin; refine wpList_append_own _ rfl _ _ 22 rfl w.heap.size 5 i0 (.int .u8 0) 1 1 Tryz.underlying22 hi hz0 hz1 hz2 rfl (by decide) _ _ _ rfl (kept_below HO.out hbb (Nat.le_refl _)) ⟨bb, 0, none⟩ _ bc (nums .u8 (Lib.encodeRuneZ x)) rfl (nums_size _ _) hcs (nums_one _ _) hc3 hc4 (Nat.le_trans HB.out.size hbb.size) ?_; intro v' w3 hown3 hgrow _; have HO3 := Lib.hid (rwrite_next HN.out HO.out HB.out hbb hown3 hgrow); clear hown3 hgrow hcs hbb))
          go_roundw
          case rel => exact ⟨k + 1, by omega, by go_num, HO3.out.1, HO3.out.2⟩
          case measure => simp [RowKit.intOf]; omega
      · obtain rfl : k = l.length := by omega
        have hd : Hid (l.take l.length = l) := Lib.hid (List.take_length)
        clear HP
        go_wp2_with fail
        go_ret
        exact ⟨_, rfl, by have := HO.out; rw [hd.out] at this; exact this, HB.out⟩
  · have hl : l = [] := List.eq_nil_of_length_eq_zero (by omega)
    subst hl
    go_enter Tryz.func63, Tryz.ntmps63
    go_wp2_with fail
    go_loop [3, 4] (fun v3 v4 => v3 = .slice none 0 0 ∧ v4 = .int .i64 0) (fun _ _ => 0)
    case atStart => exact ⟨rfl, rfl⟩
    case round =>
      obtain ⟨rfl, rfl⟩ := hrel
      go_wp2_with fail
      go_ret
      exact ⟨_, rfl, World.ownsRow_nil _ _ _ _, Below.refl _ _⟩
end Go.Proofs.YtppgklmliklkkaaGreatDoor

/-
  The walk of the reference's Read.
-/
namespace Go.Proofs.YtppgklmliklkkaaGreatDoor
open Go.RowKit

namespace Ru
/-- the ways of one round of the reference -/
inductive WayQ (r : List Int) (c : Int) (d t : Nat) : Prop
  | other (h : ((c : Int) == 13) = false) (ht : t = d)
  | last (h : ((c : Int) == 13) = true) (h2 : ¬ 1 < r.length) (ht : t = d)
  | lone (h : ((c : Int) == 13) = true) (h2 : 1 < r.length) (h3 : (g r 1 == 10) = false) (ht : t = d)
  | both (h : ((c : Int) == 13) = true) (h2 : 1 < r.length) (h3 : (g r 1 == 10) = true) (ht : t = 2)
theorem wayQ (r : List Int) (hr : r ≠ []) : WayQ r (chL r) (wdL r) (st r) := by
  by_cases h : chL r = 13
  · have hd : wdL r = 1 := by
      have h1 := wdL_int hr
      unfold chL at h
      rw [wd_13 h] at h1
      omega
    unfold st
    rw [hd]
    by_cases h2 : 1 < r.length
    · by_cases h3 : g r 1 = 10
      · exact .both (eq_t h) h2 (eq_t h3) (by rw [if_pos ⟨h, h2, h3⟩])
      · exact .lone (eq_t h) h2 (eq_f h3) (by rw [if_neg (fun hh => h3 hh.2.2)])
    · exact .last (eq_t h) h2 (by rw [if_neg (fun hh => h2 hh.2.1)])
  · exact .other (eq_f h) (by unfold st; rw [if_neg (fun hh => h hh.1)])
end Ru

/-- at the head of the reference's loop -/
def RReadAt (w : World) (l : List Int) (v0 v3 : Value) (wr : World) : Prop :=
  ∃ (k : Nat) (ds r : List Int) (A : Option Addr) (c' : Nat), Hid (r = l.drop k) ∧ v0 = .slice A r.length c' ∧ r.length ≤ c' ∧ Hid (Bs w w.heap.size .u8 A r) ∧ Hid (Ru.By r) ∧ Hid (Ru.rd l = ds ++ Ru.rd r) ∧ wr.ownsRow w.heap.size 3 1 v3 ds.length (nums .i64 ds) ∧ Below w.heap.size w wr ∧ ds.length + r.length ≤ 65536
def lenOf : Value → Nat
  | .slice _ n _ => n
  | _ => 0

set_option maxHeartbeats 4000000 in
set_option maxRecDepth 100000 in
theorem rread_any (l : List Int) (hl : Ru.By l) (A : Option Addr) (cap : Nat) (w : World) (hm : l.length ≤ 65536) (hcap : l.length ≤ cap) (hA : Bs w w.heap.size .u8 A l) :
    Calls Tryz.prog 12 #[.slice A l.length cap] w (Made .i64 3 (Ru.rd l) w) := by
  obtain ⟨i0, hi, hz0, hz1, hz2⟩ := info_parts Tryz.info3
  have HA := Lib.hid hA
  have HL := Lib.hid hl
  clear hA hl
  go_enter Tryz.func12, Tryz.ntmps12
  go_wp2_with fail
  go_loopw [0, 3] (fun v0 v3 wr => RReadAt w l v0 v3 wr) (fun v0 _ _ => lenOf v0)
  case atStart => exact ⟨0, [], l, A, cap, Lib.hid rfl, rfl, hcap, HA, HL, Lib.hid rfl, World.ownsRow_nil _ _ _ _, Below.refl _ _, by simpa using hm⟩
  case round =>
    obtain ⟨k, ds, r, A', c', hr, rfl, hrc, hBs, hBy, hrd, hown, hbel, hlen⟩ := hrel
    have HO := Lib.hid hown
    have HB := Lib.hid hbel
    clear hown hbel HA HL
    by_cases hlt : 0 < r.length
    · have hne : r ≠ [] := fun e => by rw [e] at hlt; simp at hlt
      obtain ⟨b, off, rfl, hb, hp⟩ := hBs.out hlt
      have CN : Hid (∀ wr : World, Below w.heap.size w wr → Calls Tryz.prog 31 #[.slice (some ⟨b, off, none⟩) r.length c'] wr fun e w' => e = .returned (.tuple #[.int .i64 (Ru.chL r), .int .i64 (Ru.wdL r : Nat)]) ∧ wr = w') := Lib.hid fun wr h =>
        rnext_any r hBy.out hne b off c' wr (by omega) hrc (fun j hj => (h.cell (p := ⟨b, off + j, none⟩) hb).trans (hp j hj))
      have hcell : 1 < r.length → wr.cell? ⟨b, off + 1, none⟩ = some (.int .u8 (Ru.g r 1)) := fun h => (HB.out.cell (p := ⟨b, off + 1, none⟩) hb).trans (hp 1 h)
      have hway := Ru.wayQ r hne
      have hwd := Ru.wdL_le hne
      have hst := Ru.st_le hne
      have hrd' : Hid (Ru.rd l = (ds ++ [Ru.plain (Ru.chL r)]) ++ Ru.rd (r.drop (Ru.st r))) := Lib.hid (by
        rw [hrd.out, Ru.rd_cons hne, List.append_assoc]; rfl)
      have hr' : Hid (r.drop (Ru.st r) = l.drop (k + Ru.st r)) := Lib.hid (by rw [← List.drop_drop, ← hr.out])
      have hB' := hBs.out.from_ (i := Ru.st r) hst.2 c' hrc
      rw [Option.map_some, Addr.add_lit] at hB'
      have hy' : Hid (Ru.By (r.drop (Ru.st r))) := Lib.hid (hBy.out.drop _)
      have hl' : Hid ((r.drop (Ru.st r)).length = r.length - Ru.st r) := Lib.hid (by simp)
      generalize Ru.chL r = c at *
      generalize Ru.wdL r = d at *
      generalize Ru.st r = t at *
      clear hrd hne hr hBs hBy hp
      obtain ⟨d1, d2, d3⟩ := hwd
      obtain ⟨t1, t2⟩ := hst
      have hc3 : ds.length + 1 ≤ maxLen := by unfold maxLen; omega
      have hc4 : (ds.length + 1) * 8 ≤ 140737488355328 := by omega
      rcases hway with ⟨h, rfl⟩ | ⟨h, h2, rfl⟩ | ⟨h, h2, h3, rfl⟩ | ⟨h, h2, h3, rfl⟩
      · clear hcell
        have h13 : ¬ c = 13 := by simpa using h
        by_cases e12 : c = 12
        · subst e12
          have HRD := Lib.hid (show Ru.rd l = (ds ++ [10]) ++ Ru.rd (r.drop t) from hrd'.out)
          clear hrd' h13
          by_cases hct : c' = t
          · obtain rfl : t = c' := hct.symm
            rw [if_pos rfl] at hB'
            have HB' := Lib.hid hB'
            clear hB'
            go_wp2_with (first | (go_at_call 31; ((with_reducible refine (CN.out _ HB.out).mono ?_); rintro e w1 ⟨rfl, rfl⟩)) | (at_builtin; refine wpList_append_own _ rfl _ _ 43 rfl w.heap.size 3 i0 (.int .i64 0) 1 8 Tryz.underlying43 hi hz0 hz1 hz2 rfl (by decide) _ _ _ rfl (HO.out.alloc _) ⟨wr.heap.size, 0, none⟩ 1 1 [.int .i64 (10)] rfl rfl (one_cell _ _) (one_ok _) hc3 hc4 (alloc_size HB.out.size _) ?_; intro v' w3 hown3 hgrow _; have HO3 := Lib.hid (made_next HO.out HB.out (Below.refl _ _) hown3 hgrow); clear hown3 hgrow))
            go_roundw
            case rel => exact ⟨_, ds ++ [10], _, _, _, hr', by first | (rw [hl'.out]; done) | rw [hl'.out, show r.length - t = 0 by omega], by rw [hl'.out]; omega, HB', hy', HRD, HO3.out.1, HO3.out.2, by rw [hl'.out]; simp; omega⟩
            case measure => simp [lenOf]; omega
          · rw [if_neg hct] at hB'
            have HB' := Lib.hid hB'
            clear hB'
            go_wp2_with (first | (go_at_call 31; ((with_reducible refine (CN.out _ HB.out).mono ?_); rintro e w1 ⟨rfl, rfl⟩)) | (at_builtin; refine wpList_append_own _ rfl _ _ 43 rfl w.heap.size 3 i0 (.int .i64 0) 1 8 Tryz.underlying43 hi hz0 hz1 hz2 rfl (by decide) _ _ _ rfl (HO.out.alloc _) ⟨wr.heap.size, 0, none⟩ 1 1 [.int .i64 (10)] rfl rfl (one_cell _ _) (one_ok _) hc3 hc4 (alloc_size HB.out.size _) ?_; intro v' w3 hown3 hgrow _; have HO3 := Lib.hid (made_next HO.out HB.out (Below.refl _ _) hown3 hgrow); clear hown3 hgrow))
            go_roundw
            case rel => exact ⟨_, ds ++ [10], _, _, _, hr', by first | (rw [hl'.out]; done) | rw [hl'.out, show r.length - t = 0 by omega], by rw [hl'.out]; omega, HB', hy', HRD, HO3.out.1, HO3.out.2, by rw [hl'.out]; simp; omega⟩
            case measure => simp [lenOf]; omega
        · have f12 := Ru.eq_f e12
          by_cases e0 : c = 0
          · subst e0
            have HRD := Lib.hid (show Ru.rd l = (ds ++ [65533]) ++ Ru.rd (r.drop t) from hrd'.out)
            clear hrd' h13
            by_cases hct : c' = t
            · obtain rfl : t = c' := hct.symm
              rw [if_pos rfl] at hB'
              have HB' := Lib.hid hB'
              clear hB'
              go_wp2_with (first | (go_at_call 31; ((with_reducible refine (CN.out _ HB.out).mono ?_); rintro e w1 ⟨rfl, rfl⟩)) | (at_builtin; refine wpList_append_own _ rfl _ _ 43 rfl w.heap.size 3 i0 (.int .i64 0) 1 8 Tryz.underlying43 hi hz0 hz1 hz2 rfl (by decide) _ _ _ rfl (HO.out.alloc _) ⟨wr.heap.size, 0, none⟩ 1 1 [.int .i64 (65533)] rfl rfl (one_cell _ _) (one_ok _) hc3 hc4 (alloc_size HB.out.size _) ?_; intro v' w3 hown3 hgrow _; have HO3 := Lib.hid (made_next HO.out HB.out (Below.refl _ _) hown3 hgrow); clear hown3 hgrow))
              go_roundw
              case rel => exact ⟨_, ds ++ [65533], _, _, _, hr', by first | (rw [hl'.out]; done) | rw [hl'.out, show r.length - t = 0 by omega], by rw [hl'.out]; omega, HB', hy', HRD, HO3.out.1, HO3.out.2, by rw [hl'.out]; simp; omega⟩
              case measure => simp [lenOf]; omega
            · rw [if_neg hct] at hB'
              have HB' := Lib.hid hB'
              clear hB'
              go_wp2_with (first | (go_at_call 31; ((with_reducible refine (CN.out _ HB.out).mono ?_); rintro e w1 ⟨rfl, rfl⟩)) | (at_builtin; refine wpList_append_own _ rfl _ _ 43 rfl w.heap.size 3 i0 (.int .i64 0) 1 8 Tryz.underlying43 hi hz0 hz1 hz2 rfl (by decide) _ _ _ rfl (HO.out.alloc _) ⟨wr.heap.size, 0, none⟩ 1 1 [.int .i64 (65533)] rfl rfl (one_cell _ _) (one_ok _) hc3 hc4 (alloc_size HB.out.size _) ?_; intro v' w3 hown3 hgrow _; have HO3 := Lib.hid (made_next HO.out HB.out (Below.refl _ _) hown3 hgrow); clear hown3 hgrow))
              go_roundw
              case rel => exact ⟨_, ds ++ [65533], _, _, _, hr', by first | (rw [hl'.out]; done) | rw [hl'.out, show r.length - t = 0 by omega], by rw [hl'.out]; omega, HB', hy', HRD, HO3.out.1, HO3.out.2, by rw [hl'.out]; simp; omega⟩
              case measure => simp [lenOf]; omega
          · have f0 := Ru.eq_f e0
            have hpl : Ru.plain c = c := by unfold Ru.plain; rw [if_neg (by omega), if_neg e0]
            have HRD := Lib.hid (show Ru.rd l = (ds ++ [c]) ++ Ru.rd (r.drop t) by rw [← hpl]; exact hrd'.out)
            clear hrd' h13 hpl e12 e0
            by_cases hct : c' = t
            · obtain rfl : t = c' := hct.symm
              rw [if_pos rfl] at hB'
              have HB' := Lib.hid hB'
              clear hB'
              go_wp2_with (first | (go_at_call 31; ((with_reducible refine (CN.out _ HB.out).mono ?_); rintro e w1 ⟨rfl, rfl⟩)) | (at_builtin; refine wpList_append_own _ rfl _ _ 43 rfl w.heap.size 3 i0 (.int .i64 0) 1 8 Tryz.underlying43 hi hz0 hz1 hz2 rfl (by decide) _ _ _ rfl (HO.out.alloc _) ⟨wr.heap.size, 0, none⟩ 1 1 [.int .i64 (c)] rfl rfl (one_cell _ _) (one_ok _) hc3 hc4 (alloc_size HB.out.size _) ?_; intro v' w3 hown3 hgrow _; have HO3 := Lib.hid (made_next HO.out HB.out (Below.refl _ _) hown3 hgrow); clear hown3 hgrow))
              go_roundw
              case rel => exact ⟨_, ds ++ [c], _, _, _, hr', by first | (rw [hl'.out]; done) | rw [hl'.out, show r.length - t = 0 by omega], by rw [hl'.out]; omega, HB', hy', HRD, HO3.out.1, HO3.out.2, by rw [hl'.out]; simp; omega⟩
              case measure => simp [lenOf]; omega
            · rw [if_neg hct] at hB'
              have HB' := Lib.hid hB'
              clear hB'
              go_wp2_with (first | (go_at_call 31; ((with_reducible refine (CN.out _ HB.out).mono ?_); rintro e w1 ⟨rfl, rfl⟩)) | (at_builtin; refine wpList_append_own _ rfl _ _ 43 rfl w.heap.size 3 i0 (.int .i64 0) 1 8 Tryz.underlying43 hi hz0 hz1 hz2 rfl (by decide) _ _ _ rfl (HO.out.alloc _) ⟨wr.heap.size, 0, none⟩ 1 1 [.int .i64 (c)] rfl rfl (one_cell _ _) (one_ok _) hc3 hc4 (alloc_size HB.out.size _) ?_; intro v' w3 hown3 hgrow _; have HO3 := Lib.hid (made_next HO.out HB.out (Below.refl _ _) hown3 hgrow); clear hown3 hgrow))
              go_roundw
              case rel => exact ⟨_, ds ++ [c], _, _, _, hr', by first | (rw [hl'.out]; done) | rw [hl'.out, show r.length - t = 0 by omega], by rw [hl'.out]; omega, HB', hy', HRD, HO3.out.1, HO3.out.2, by rw [hl'.out]; simp; omega⟩
              case measure => simp [lenOf]; omega
      · have hpl : Ru.plain c = 10 := by unfold Ru.plain; rw [if_pos (Or.inl (by simpa using h))]
        have HRD := Lib.hid (show Ru.rd l = (ds ++ [10]) ++ Ru.rd (r.drop t) by rw [← hpl]; exact hrd'.out)
        clear hrd' hpl
        clear hcell
        by_cases hct : c' = t
        · obtain rfl : t = c' := hct.symm
          rw [if_pos rfl] at hB'
          have HB' := Lib.hid hB'
          clear hB'
          go_wp2_with (first | (go_at_call 31; ((with_reducible refine (CN.out _ HB.out).mono ?_); rintro e w1 ⟨rfl, rfl⟩)) | (at_builtin; refine wpList_append_own _ rfl _ _ 43 rfl w.heap.size 3 i0 (.int .i64 0) 1 8 Tryz.underlying43 hi hz0 hz1 hz2 rfl (by decide) _ _ _ rfl (HO.out.alloc _) ⟨wr.heap.size, 0, none⟩ 1 1 [.int .i64 (10)] rfl rfl (one_cell _ _) (one_ok _) hc3 hc4 (alloc_size HB.out.size _) ?_; intro v' w3 hown3 hgrow _; have HO3 := Lib.hid (made_next HO.out HB.out (Below.refl _ _) hown3 hgrow); clear hown3 hgrow))
          go_roundw
          case rel => exact ⟨_, ds ++ [10], _, _, _, hr', by first | (rw [hl'.out]; done) | rw [hl'.out, show r.length - t = 0 by omega], by rw [hl'.out]; omega, HB', hy', HRD, HO3.out.1, HO3.out.2, by rw [hl'.out]; simp; omega⟩
          case measure => simp [lenOf]; omega
        · rw [if_neg hct] at hB'
          have HB' := Lib.hid hB'
          clear hB'
          go_wp2_with (first | (go_at_call 31; ((with_reducible refine (CN.out _ HB.out).mono ?_); rintro e w1 ⟨rfl, rfl⟩)) | (at_builtin; refine wpList_append_own _ rfl _ _ 43 rfl w.heap.size 3 i0 (.int .i64 0) 1 8 Tryz.underlying43 hi hz0 hz1 hz2 rfl (by decide) _ _ _ rfl (HO.out.alloc _) ⟨wr.heap.size, 0, none⟩ 1 1 [.int .i64 (10)] rfl rfl (one_cell _ _) (one_ok _) hc3 hc4 (alloc_size HB.out.size _) ?_; intro v' w3 hown3 hgrow _; have HO3 := Lib.hid (made_next HO.out HB.out (Below.refl _ _) hown3 hgrow); clear hown3 hgrow))
          go_roundw
          case rel => exact ⟨_, ds ++ [10], _, _, _, hr', by first | (rw [hl'.out]; done) | rw [hl'.out, show r.length - t = 0 by omega], by rw [hl'.out]; omega, HB', hy', HRD, HO3.out.1, HO3.out.2, by rw [hl'.out]; simp; omega⟩
          case measure => simp [lenOf]; omega
      · have hpl : Ru.plain c = 10 := by unfold Ru.plain; rw [if_pos (Or.inl (by simpa using h))]
        have HRD := Lib.hid (show Ru.rd l = (ds ++ [10]) ++ Ru.rd (r.drop t) by rw [← hpl]; exact hrd'.out)
        clear hrd' hpl
        replace hcell := hcell h2
        by_cases hct : c' = t
        · obtain rfl : t = c' := hct.symm
          rw [if_pos rfl] at hB'
          have HB' := Lib.hid hB'
          clear hB'
          go_wp2_with (first | (go_at_call 31; ((with_reducible refine (CN.out _ HB.out).mono ?_); rintro e w1 ⟨rfl, rfl⟩)) | (at_builtin; refine wpList_append_own _ rfl _ _ 43 rfl w.heap.size 3 i0 (.int .i64 0) 1 8 Tryz.underlying43 hi hz0 hz1 hz2 rfl (by decide) _ _ _ rfl (HO.out.alloc _) ⟨wr.heap.size, 0, none⟩ 1 1 [.int .i64 (10)] rfl rfl (one_cell _ _) (one_ok _) hc3 hc4 (alloc_size HB.out.size _) ?_; intro v' w3 hown3 hgrow _; have HO3 := Lib.hid (made_next HO.out HB.out (Below.refl _ _) hown3 hgrow); clear hown3 hgrow))
          go_roundw
          case rel => exact ⟨_, ds ++ [10], _, _, _, hr', by first | (rw [hl'.out]; done) | rw [hl'.out, show r.length - t = 0 by omega], by rw [hl'.out]; omega, HB', hy', HRD, HO3.out.1, HO3.out.2, by rw [hl'.out]; simp; omega⟩
          case measure => simp [lenOf]; omega
        · rw [if_neg hct] at hB'
          have HB' := Lib.hid hB'
          clear hB'
          go_wp2_with (first | (go_at_call 31; ((with_reducible refine (CN.out _ HB.out).mono ?_); rintro e w1 ⟨rfl, rfl⟩)) | (at_builtin; refine wpList_append_own _ rfl _ _ 43 rfl w.heap.size 3 i0 (.int .i64 0) 1 8 Tryz.underlying43 hi hz0 hz1 hz2 rfl (by decide) _ _ _ rfl (HO.out.alloc _) ⟨wr.heap.size, 0, none⟩ 1 1 [.int .i64 (10)] rfl rfl (one_cell _ _) (one_ok _) hc3 hc4 (alloc_size HB.out.size _) ?_; intro v' w3 hown3 hgrow _; have HO3 := Lib.hid (made_next HO.out HB.out (Below.refl _ _) hown3 hgrow); clear hown3 hgrow))
          go_roundw
          case rel => exact ⟨_, ds ++ [10], _, _, _, hr', by first | (rw [hl'.out]; done) | rw [hl'.out, show r.length - t = 0 by omega], by rw [hl'.out]; omega, HB', hy', HRD, HO3.out.1, HO3.out.2, by rw [hl'.out]; simp; omega⟩
          case measure => simp [lenOf]; omega
      · have hpl : Ru.plain c = 10 := by unfold Ru.plain; rw [if_pos (Or.inl (by simpa using h))]
        have HRD := Lib.hid (show Ru.rd l = (ds ++ [10]) ++ Ru.rd (r.drop 2) by rw [← hpl]; exact hrd'.out)
        clear hrd' hpl
        replace hcell := hcell h2
        by_cases hct : c' = 2
        · subst hct
          rw [if_pos rfl] at hB'
          have HB' := Lib.hid hB'
          clear hB'
          go_wp2_with (first | (go_at_call 31; ((with_reducible refine (CN.out _ HB.out).mono ?_); rintro e w1 ⟨rfl, rfl⟩)) | (at_builtin; refine wpList_append_own _ rfl _ _ 43 rfl w.heap.size 3 i0 (.int .i64 0) 1 8 Tryz.underlying43 hi hz0 hz1 hz2 rfl (by decide) _ _ _ rfl (HO.out.alloc _) ⟨wr.heap.size, 0, none⟩ 1 1 [.int .i64 (10)] rfl rfl (one_cell _ _) (one_ok _) hc3 hc4 (alloc_size HB.out.size _) ?_; intro v' w3 hown3 hgrow _; have HO3 := Lib.hid (made_next HO.out HB.out (Below.refl _ _) hown3 hgrow); clear hown3 hgrow))
          go_roundw
          case rel => exact ⟨_, ds ++ [10], _, _, _, hr', by first | (rw [hl'.out]; done) | rw [hl'.out, show r.length - 2 = 0 by omega], by rw [hl'.out]; omega, HB', hy', HRD, HO3.out.1, HO3.out.2, by rw [hl'.out]; simp; omega⟩
          case measure => simp [lenOf]; omega
        · rw [if_neg hct] at hB'
          have HB' := Lib.hid hB'
          clear hB'
          go_wp2_with (first | (go_at_call 31; ((with_reducible refine (CN.out _ HB.out).mono ?_); rintro e w1 ⟨rfl, rfl⟩)) | (at_builtin; refine wpList_append_own _ rfl _ _ 43 rfl w.heap.size 3 i0 (.int .i64 0) 1 8 Tryz.underlying43 hi hz0 hz1 hz2 rfl (by decide) _ _ _ rfl (HO.out.alloc _) ⟨wr.heap.size, 0, none⟩ 1 1 [.int .i64 (10)] rfl rfl (one_cell _ _) (one_ok _) hc3 hc4 (alloc_size HB.out.size _) ?_; intro v' w3 hown3 hgrow _; have HO3 := Lib.hid (made_next HO.out HB.out (Below.refl _ _) hown3 hgrow); clear hown3 hgrow))
          go_roundw
          case rel => exact ⟨_, ds ++ [10], _, _, _, hr', by first | (rw [hl'.out]; done) | rw [hl'.out, show r.length - 2 = 0 by omega], by rw [hl'.out]; omega, HB', hy', HRD, HO3.out.1, HO3.out.2, by rw [hl'.out]; simp; omega⟩
          case measure => simp [lenOf]; omega
    · have hr0 : r = [] := List.eq_nil_of_length_eq_zero (by omega)
      have hd : Ru.rd l = ds := by rw [hrd.out, hr0, Ru.rd_nil, List.append_nil]
      have HD := Lib.hid hd
      clear hd hrd hr0
      go_wp2_with fail
      go_ret
      exact ⟨_, rfl, by rw [HD.out]; exact HO.out, HB.out⟩
end Go.Proofs.YtppgklmliklkkaaGreatDoor
