/-
  The walks of the reference's Bytes and Write.
-/
import Derived.Test.YtakafhjnkcilkaaDoorRuJ
namespace Go.Proofs.YtakafhjnkcilkaaDoor
open Go.RowKit

/-- a slice that reads as numbers, in what is new -/
def Fresh (k : IntKind) (l : List Int) (w : World) (e : Ending) (w' : World) : Prop :=
  ∃ (b cap : Nat), e = .returned (.slice (some ⟨b, 0, none⟩) l.length cap) ∧ (∀ j u, (nums k l)[j]? = some u → w'.cell? ((⟨b, 0, none⟩ : Addr).add j) = some u) ∧ Below w.heap.size w w'
theorem fresh_made {w : World} {k : IntKind} {l : List Int} {E : TypeId} (v : Ending) (h : v = .returned (.slice (some ⟨w.heap.size, 0, none⟩) l.length l.length)) : Fresh k l w v (w.alloc (.cells (nums k l).toArray E)) := by
  refine ⟨w.heap.size, l.length, h, fun j u hj => ?_, (Below.refl _ _).alloc (Nat.le_refl _) _⟩
  rw [Addr.add_lit, cell_of_row _ _ _ (nums k l).toArray E (0, 0) (heap_alloc_new w _)]
  simpa using hj

set_option maxHeartbeats 1000000 in
theorem bytes_any (c : Int) (w : World) (h : Ru.Is c) :
    Calls Tryd.prog 33 #[.int .i64 c] w (Fresh .u8 (Lib.encodeRuneZ c) w) := by
  unfold Ru.Is at h
  by_cases h1 : c < 128
  · have e := Lib.encodeRuneZ_one h.1 (by omega : c ≤ 127)
    rw [e]
    have q0 : 0 ≤ c := h.1
    clear e h
    go_enter Tryd.func33, Tryd.ntmps33
    go_wp2_with fail
    go_ret
    exact fresh_made _ rfl
  · by_cases h2 : c < 2048
    · have e := Lib.encodeRuneZ_two (by omega : 128 ≤ c) (by omega)
      rw [e]
      clear e h
      go_enter Tryd.func33, Tryd.ntmps33
      go_wp2_with fail
      go_ret
      exact fresh_made _ rfl
    · by_cases h3 : c < 65536
      · have e := Lib.encodeRuneZ_three (r := c) (by omega)
        rw [e]
        clear e h
        go_enter Tryd.func33, Tryd.ntmps33
        go_wp2_with fail
        go_ret
        exact fresh_made _ rfl
      · have e := Lib.encodeRuneZ_four (r := c) (by omega) (by omega)
        rw [e]
        have q1 : c ≤ 1114111 := by omega
        clear e h
        go_enter Tryd.func33, Tryd.ntmps33
        go_wp2_with fail
        go_ret
        exact fresh_made _ rfl

theorem enc_bad {c : Int} (h : ¬ Ru.Is c) : Lib.encodeRuneZ 65533 = Lib.encodeRuneZ c := by
  unfold Ru.Is at h
  rw [Lib.encodeRuneZ_bad (r := c) (by omega)]
  decide

theorem rwrite_next {w wr wb w3 : World} {v v' : Value} {l : List Int} {k : Nat} {x : Int} (hk : l.take (k + 1) = l.take k ++ [x])
    (hown : wr.ownsRow w.heap.size 5 1 v (Ru.wr (l.take k)).length (nums .u8 (Ru.wr (l.take k)))) (hbel : Below w.heap.size w wr) (hb : Below wr.heap.size wr wb)
    (hown3 : w3.ownsRow w.heap.size 5 1 v' ((Ru.wr (l.take k)).length + (Lib.encodeRuneZ x).length) (nums .u8 (Ru.wr (l.take k)) ++ nums .u8 (Lib.encodeRuneZ x))) (hgrow : wb.grownBy w3 v.ownBlock) :
    w3.ownsRow w.heap.size 5 1 v' (Ru.wr (l.take (k + 1))).length (nums .u8 (Ru.wr (l.take (k + 1)))) ∧ Below w.heap.size w w3 := by
  refine ⟨?_, ?_⟩
  · rw [hk, Ru.wr_snoc, nums_app, List.length_append]
    exact hown3
  · have hs := hbel.size
    have hs2 := hb.size
    exact (hbel.trans (hb.mono hs)).grown hgrow (by omega) (fun j hj => (hown.lt j hj).1)
theorem nums_size (k : IntKind) (l : List Int) : (nums k l).length = l.length * 1 := by rw [nums_len]; omega

set_option maxHeartbeats 1000000 in
set_option maxRecDepth 100000 in
theorem rwrite_any (l : List Int) (A : Option Addr) (cap : Nat) (w : World) (hm : l.length ≤ 65536) (hcap : l.length ≤ cap) (hA : Bs w w.heap.size .i64 A l) :
    Calls Tryd.prog 16 #[.slice A l.length cap] w (Made .u8 5 (Ru.wr l) w) := by
  obtain ⟨i0, hi, hz0, hz1, hz2⟩ := info_parts Tryd.info5
  have CB : Hid (∀ (c x : Int) (wq : World), Ru.Is c → Lib.encodeRuneZ c = Lib.encodeRuneZ x → Calls Tryd.prog 33 #[.int .i64 c] wq (Fresh .u8 (Lib.encodeRuneZ x) wq)) :=
    Lib.hid fun c x wq h1 h2 => by rw [← h2]; exact bytes_any c wq h1
  have HA := Lib.hid hA
  clear hA
  by_cases h0 : 0 < l.length
  · obtain ⟨b, off, rfl, hb, hp⟩ := HA.out h0
    have HP := Lib.hid hp
    clear hp HA
    go_enter Tryd.func16, Tryd.ntmps16
    go_wp2_with fail
    go_loopw [3, 4] (fun v3 v4 wr => WriteAt w l v3 v4 wr) (fun _ v4 _ => l.length - (RowKit.intOf v4).toNat)
    case atStart => exact ⟨0, Nat.zero_le _, rfl, World.ownsRow_nil _ _ _ _, Below.refl _ _⟩
    case round =>
      obtain ⟨k, hk, rfl, hown, hbel⟩ := hrel
      have HO := Lib.hid hown
      have HB := Lib.hid hbel
      clear hown hbel
      by_cases hlt : k < l.length
      · have hcell := (HB.out.cell (p := ⟨b, off + k, none⟩) hb).trans (HP.out k hlt)
        have HN := Lib.hid (Ru.take_g hlt)
        have hle := Lib.encodeRuneZ_length (Ru.g l k)
        have hc0 : (Ru.wr (l.take k)).length + 4 ≤ 1000000 := by have := Ru.wr_len (l.take k); have := List.length_take_le k l; omega
        have hc3 : (Ru.wr (l.take k)).length + (Lib.encodeRuneZ (Ru.g l k)).length ≤ maxLen := by unfold maxLen; omega
        have hc4 : ((Ru.wr (l.take k)).length + (Lib.encodeRuneZ (Ru.g l k)).length) * 1 ≤ 140737488355328 := by omega
        clear hle hc0
        cases his : Ru.isB (Ru.g l k)
        · have hbad : ¬ Ru.Is (Ru.g l k) := fun h => by rw [Ru.isB_iff.2 h] at his; cases his
          have C' := Lib.hid (fun wq => CB.out 65533 (Ru.g l k) wq (by unfold Ru.Is; omega) (enc_bad hbad))
          clear hbad CB
          generalize Ru.g l k = x at *
          go_wp2_with (first | (go_at_call 17; ((with_reducible refine (ris_any _ _).mono ?_); rintro e w' ⟨rfl, rfl⟩)) | (go_at_call 33; ((with_reducible refine (C'.out _).mono ?_); rintro e wb ⟨bb, bc, rfl, hcs, hbb⟩)) | (at_builtin; refine wpList_append_own _ rfl _ _ 22 rfl w.heap.size 5 i0 (.int .u8 0) 1 1 Tryd.underlying22 hi hz0 hz1 hz2 rfl (by decide) _ _ _ rfl (kept_below HO.out hbb (Nat.le_refl _)) ⟨bb, 0, none⟩ _ bc (nums .u8 (Lib.encodeRuneZ x)) rfl (nums_size _ _) hcs (nums_one _ _) hc3 hc4 (Nat.le_trans HB.out.size hbb.size) ?_; intro v' w3 hown3 hgrow _; have HO3 := Lib.hid (rwrite_next HN.out HO.out HB.out hbb hown3 hgrow); clear hown3 hgrow hcs hbb))
          go_roundw
          case rel => exact ⟨k + 1, by omega, by go_num, HO3.out.1, HO3.out.2⟩
          case measure => simp [RowKit.intOf]; omega
        · have C' := Lib.hid (fun wq => CB.out (Ru.g l k) (Ru.g l k) wq (Ru.isB_iff.1 his) rfl)
          clear CB
          generalize Ru.g l k = x at *
          go_wp2_with (first | (go_at_call 17; ((with_reducible refine (ris_any _ _).mono ?_); rintro e w' ⟨rfl, rfl⟩)) | (go_at_call 33; ((with_reducible refine (C'.out _).mono ?_); rintro e wb ⟨bb, bc, rfl, hcs, hbb⟩)) | (at_builtin; refine wpList_append_own _ rfl _ _ 22 rfl w.heap.size 5 i0 (.int .u8 0) 1 1 Tryd.underlying22 hi hz0 hz1 hz2 rfl (by decide) _ _ _ rfl (kept_below HO.out hbb (Nat.le_refl _)) ⟨bb, 0, none⟩ _ bc (nums .u8 (Lib.encodeRuneZ x)) rfl (nums_size _ _) hcs (nums_one _ _) hc3 hc4 (Nat.le_trans HB.out.size hbb.size) ?_; intro v' w3 hown3 hgrow _; have HO3 := Lib.hid (rwrite_next HN.out HO.out HB.out hbb hown3 hgrow); clear hown3 hgrow hcs hbb))
          go_roundw
          case rel => exact ⟨k + 1, by omega, by go_num, HO3.out.1, HO3.out.2⟩
          case measure => simp [RowKit.intOf]; omega
      · obtain rfl : k = l.length := by omega
        have hd : Hid (l.take l.length = l) := Lib.hid (List.take_length)
        clear HP
        go_wp2_with fail
        go_ret
        exact ⟨_, rfl, by have := HO.out; rw [hd.out] at this; exact this, HB.out⟩
  · have hl : l = [] := List.eq_nil_of_length_eq_zero (by omega)
    subst hl
    go_enter Tryd.func16, Tryd.ntmps16
    go_wp2_with fail
    go_loop [3, 4] (fun v3 v4 => v3 = .slice none 0 0 ∧ v4 = .int .i64 0) (fun _ _ => 0)
    case atStart => exact ⟨rfl, rfl⟩
    case round =>
      obtain ⟨rfl, rfl⟩ := hrel
      go_wp2_with fail
      go_ret
      exact ⟨_, rfl, World.ownsRow_nil _ _ _ _, Below.refl _ _⟩
end Go.Proofs.YtakafhjnkcilkaaDoor
