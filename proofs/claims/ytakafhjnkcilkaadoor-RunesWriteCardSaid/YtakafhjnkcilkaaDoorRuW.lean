/-
  The walks of next, and of the reference's Next, over the bytes of a list.
-/
import Derived.Test.YtakafhjnkcilkaaDoorRuV
import Derived.Test.YtakafhjnkcilkaaDoorRuH
namespace Go.Proofs.YtakafhjnkcilkaaDoor
open Go.RowKit

set_option maxHeartbeats 400000 in
theorem rnext_any (l : List Int) (hl : Ru.By l) (h0 : l ≠ []) (b off cap : Nat) (w : World) (hm : l.length ≤ 9223372036854775807) (hcap : l.length ≤ cap) (hp : ∀ j, j < l.length → w.cell? ⟨b, off + j, none⟩ = some (.int .u8 (Ru.g l j))) :
    Calls Tryd.prog 31 #[.slice (some ⟨b, off, none⟩) l.length cap] w fun e w' => e = .returned (.tuple #[.int .i64 (Ru.chL l), .int .i64 (Ru.wdL l : Nat)]) ∧ w = w' := by
  have hlen := Ru.len_pos h0
  have y0 := hl.at_ 0
  have hc0 := hp 0 (by omega)
  rw [Nat.add_zero] at hc0
  rw [Ru.wdL_int h0]
  by_cases ha : Ru.g l 0 < 128
  · have e1 : Ru.chL l = Ru.g l 0 := by unfold Ru.chL Ru.ch; rw [if_pos ha]
    have e2 : Ru.wd l.length (Ru.g l 0) (Ru.g l 1) (Ru.g l 2) (Ru.g l 3) = 1 := by unfold Ru.wd; rw [if_pos ha]
    rw [e1, e2]
    generalize Ru.g l 0 = a at *
    generalize l.length = n at *
    clear hp e1 e2 h0 hl
    go_enter Tryd.func31, Tryd.ntmps31
    go_wp2_with fail
    go_ret2
    exact ⟨rfl, rfl⟩
  · have hmm := Ru.mm_le l.length (Ru.g l 0) (Ru.g l 1) (Ru.g l 2) (Ru.g l 3) (by omega)
    have e1 : Ru.chL l = Ru.res (Ru.need (Ru.g l 0)) (Ru.mm l.length (Ru.g l 0) (Ru.g l 1) (Ru.g l 2) (Ru.g l 3)) (Ru.val (Ru.g l 0) (Ru.g l 1) (Ru.g l 2) (Ru.g l 3)) := by unfold Ru.chL Ru.ch Ru.res; rw [if_neg ha]
    have e2 : Ru.wd l.length (Ru.g l 0) (Ru.g l 1) (Ru.g l 2) (Ru.g l 3) = Ru.wid (Ru.mm l.length (Ru.g l 0) (Ru.g l 1) (Ru.g l 2) (Ru.g l 3)) := by unfold Ru.wd Ru.wid; rw [if_neg ha]
    rw [e1, e2]
    refine next_high l.length b off cap w _ _ _ hlen hm hcap (Ru.g l 0) (by omega) hc0 (Ru.need_case _) hmm (fun h => Ru.mm_one h) (Lib.hid fun K L k1 k2 k3 l1 l2 => ?_) (Lib.hid fun L l1 hs hms => ?_)
    · rcases (show L = 2 ∨ L = 3 ∨ L = 4 by omega) with rfl | rfl | rfl
      · exact begins_two l.length K l b off cap w k1 (by omega) k3 hl (fun j hj => hp j (by omega))
      · exact begins_three l.length K l b off cap w k1 (by omega) k3 hl (fun j hj => hp j (by omega))
      · exact begins_four l.length K l b off cap w k1 (by omega) k3 hl (fun j hj => hp j (by omega))
    · rw [← hs] at hmm
      rcases (show L = 2 ∨ L = 3 ∨ L = 4 by have := Ru.need_case (Ru.g l 0); omega) with rfl | rfl | rfl
      · have hb := (Ru.bg_two l.length 2 l (by omega) (by omega) (by omega)).2 ⟨hs, by omega⟩
        have hv := Ru.val_sp l 2 hs (by omega) hb.1 hb.2.1
        exact (span_two 2 l b off cap w (by omega) hl (by omega) (fun j hj => hp j (by omega))).mono fun e w' h => ⟨_, (h.1 ⟨hb.1, hb.2.1⟩).trans (ret_two hv rfl), h.2.2⟩
      · have hb := (Ru.bg_three l.length 3 l (by omega) (by omega) (by omega)).2 ⟨hs, by omega⟩
        have hv := Ru.val_sp l 3 hs (by omega) hb.1 hb.2.1
        exact (span_three 3 l b off cap w (by omega) hl (by omega) (fun j hj => hp j (by omega))).mono fun e w' h => ⟨_, (h.1 ⟨hb.1, hb.2.1⟩).trans (ret_two hv rfl), h.2.2⟩
      · have hb := (Ru.bg_four l.length 4 l (by omega) (by omega) (by omega)).2 ⟨hs, by omega⟩
        have hv := Ru.val_sp l 4 hs (by omega) hb.1 hb.2.1
        exact (span_four 4 l b off cap w (by omega) hl (by omega) (fun j hj => hp j (by omega))).mono fun e w' h => ⟨_, (h.1 ⟨hb.1, hb.2.1⟩).trans (ret_two hv rfl), h.2.2⟩

namespace Ru
/-- numbers as bytes -/
def arr (l : List Int) : ByteArray := ⟨(l.map fun x => UInt8.ofNat x.toNat).toArray⟩
theorem arr_size (l : List Int) : (arr l).size = l.length := by
  unfold arr
  rw [Lib.size_eq]
  simp
theorem arr_get {l : List Int} (hl : By l) (j : Nat) : (((arr l).get! j).toNat : Int) = g l j := by
  rw [← Lib.getD_get!']
  unfold arr g
  rw [List.getD_eq_getElem?_getD, List.getD_eq_getElem?_getD]
  rcases Nat.lt_or_ge j l.length with h | h
  · simp only [List.getElem?_map, List.getElem?_eq_getElem h, Option.map_some, Option.getD_some]
    have := hl l[j] (List.getElem_mem h)
    rw [UInt8.toNat_ofNat']
    omega
  · simp [List.getElem?_eq_none h]
end Ru

set_option maxRecDepth 100000 in
set_option maxHeartbeats 1000000 in
/-- what next tells -/
theorem next_any (l : List Int) (hl : Ru.By l) (h0 : l ≠ []) (b off cap : Nat) (w : World) (hm : l.length ≤ 9223372036854775807) (hcap : l.length ≤ cap) (hT : Tab w.heap.size w) (hp : ∀ j, j < l.length → w.cell? ⟨b, off + j, none⟩ = some (.int .u8 (Ru.g l j))) :
    Calls Tryd.prog 29 #[.slice (some ⟨b, off, none⟩) l.length cap] w fun e w' => e = .returned (.tuple #[.int .i32 (Ru.chL l), .int .i64 (Ru.wdL l : Nat)]) ∧ Below w.heap.size w w' := by
  have hlen := Ru.len_pos h0
  have hsz := Ru.arr_size l
  have y0 := hl.at_ 0
  obtain ⟨x0, hx0⟩ : ∃ x : Nat, (x : Int) = Ru.g l 0 := ⟨_, Ru.arr_get hl 0⟩
  obtain ⟨x1, hx1⟩ : ∃ x : Nat, (x : Int) = Ru.g l 1 := ⟨_, Ru.arr_get hl 1⟩
  obtain ⟨x2, hx2⟩ : ∃ x : Nat, (x : Int) = Ru.g l 2 := ⟨_, Ru.arr_get hl 2⟩
  obtain ⟨x3, hx3⟩ : ∃ x : Nat, (x : Int) = Ru.g l 3 := ⟨_, Ru.arr_get hl 3⟩
  have z0 := hl.at_ 0
  have z1 := hl.at_ 1
  have z2 := hl.at_ 2
  have z3 := hl.at_ 3
  have hdec : Lib.decodeGo (Ru.arr l) = Lib.decodeN l.length x0 x1 x2 x3 := by
    have a0 := Ru.arr_get hl 0
    have a1 := Ru.arr_get hl 1
    have a2 := Ru.arr_get hl 2
    have a3 := Ru.arr_get hl 3
    have : ¬ (Ru.arr l).size = 0 := by omega
    simp only [Lib.decodeGo, this, if_false]
    rw [Lib.decode_at, Nat.sub_zero, Nat.zero_add, Nat.zero_add, Nat.zero_add, hsz]
    congr 1 <;> omega
  have C := Tryd.utf8_DecodeRune (Ru.arr l) b off cap w hT.1 (fun j hj => by rw [hp j (by omega), ← Ru.arr_get hl j])
  rw [hdec, hsz] at C
  have hd0 := hp 0 (by omega)
  rw [Nat.add_zero, ← hx0] at hd0
  have hd1 : 1 < l.length → w.cell? ⟨b, off + 1, none⟩ = some (.int .u8 x1) := fun h => by rw [hp 1 h, hx1]
  have hd2 : 2 < l.length → w.cell? ⟨b, off + 2, none⟩ = some (.int .u8 x2) := fun h => by rw [hp 2 h, hx2]
  have hb : b < w.heap.size := World.block_lt_of_cell? w _ hd0
  have CB : Hid (∀ wr : World, Below w.heap.size w wr → Calls Tryd.prog 38 #[.slice (some ⟨b, off, none⟩) l.length cap] wr (Begun l.length x0 x1 x2 wr)) := Lib.hid fun wr hbel =>
    beginning_any l.length x0 x1 x2 b off cap wr hlen hm hcap ⟨(hT.below hbel).1, by have := hbel.size; have := hT.2; omega⟩ (by omega) ((hbel.cell (p := ⟨b, off, none⟩) hb).trans hd0) (fun h => (hbel.cell (p := ⟨b, off + 1, none⟩) hb).trans (hd1 h)) (fun h => (hbel.cell (p := ⟨b, off + 2, none⟩) hb).trans (hd2 h))
  rw [Ru.wdL_int h0]
  unfold Ru.chL
  have E1 := Ru.decode_is l.length x0 x1 x2 x3 hlen (by omega) (by omega) (by omega) (by omega)
  have E2 : ∀ k : Nat, ((Lib.decodeN l.length x0 x1 x2 x3).1 = 65533 ∧ (Lib.decodeN l.length x0 x1 x2 x3).2 = 1) → 1 ≤ k → k ≤ l.length → (k = 1 ∨ Ru.full k x0 x1 x2 = false) → (k = l.length ∨ Ru.full (k + 1 : Int) x0 x1 x2 = true) →
      (65533 : Int) = Ru.ch l.length (Ru.g l 0) (Ru.g l 1) (Ru.g l 2) (Ru.g l 3) ∧ (k : Int) = Ru.wd l.length (Ru.g l 0) (Ru.g l 1) (Ru.g l 2) (Ru.g l 3) := fun k h1 h2 h3 h4 h5 => by
    rw [← hx0, ← hx1, ← hx2, ← hx3]
    exact Ru.beginning_is l.length k x0 x1 x2 x3 hlen (by omega) (by omega) (by omega) (by omega) h1 h2 h3 h4 h5
  rw [hx0, hx1, hx2, hx3] at E1
  generalize Ru.ch l.length (Ru.g l 0) (Ru.g l 1) (Ru.g l 2) (Ru.g l 3) = c at *
  generalize Ru.wd l.length (Ru.g l 0) (Ru.g l 1) (Ru.g l 2) (Ru.g l 3) = d at *
  generalize Lib.decodeN l.length x0 x1 x2 x3 = D at *
  obtain ⟨D1, D2⟩ := D
  simp only at C E1 E2
  clear hdec hp z0 z1 z2 z3 y0 hsz hd0 hd1 hd2
  by_cases h : D1 = 65533 ∧ D2 = 1
  · obtain ⟨rfl, rfl⟩ := h
    have E := Lib.hid (fun k => E2 k ⟨rfl, rfl⟩)
    have C' := Lib.hid C
    clear E1 E2 C hx0 hx1 hx2 hx3
    go_enter Tryd.func29, Tryd.ntmps29
    go_wp2_with (first | (go_at_call 37; ((with_reducible refine (C'.out).mono ?_); rintro e w1 ⟨rfl, hb1⟩)) | (go_at_call 38; ((with_reducible refine (CB.out _ hb1).mono ?_); rintro e w2 ⟨k, rfl, k1, k2, k3, k4, hb2⟩)))
    go_ret2
    have hE := E.out k k1 k2 k3 k4
    exact ⟨ret_two hE.1 hE.2, hb1.trans (hb2.mono hb1.size)⟩
  · have hE := E1 h
    obtain ⟨rfl, rfl⟩ := hE
    have C' := Lib.hid C
    clear E1 E2 C hx0 hx1 hx2 hx3 CB
    by_cases h1 : D1 = 65533
    · subst h1
      have h2 : ¬ D2 = 1 := fun e => h ⟨rfl, e⟩
      have e2 : ((D2 : Int) == 1) = false := Ru.eq_f (by omega)
      clear h h2
      go_enter Tryd.func29, Tryd.ntmps29
      go_wp2_with (go_at_call 37; ((with_reducible refine (C'.out).mono ?_); rintro e w1 ⟨rfl, hb1⟩))
      go_ret2
      exact ⟨rfl, hb1⟩
    · have e1 : ((D1 : Int) == 65533) = false := Ru.eq_f (by omega)
      clear h h1
      go_enter Tryd.func29, Tryd.ntmps29
      go_wp2_with (go_at_call 37; ((with_reducible refine (C'.out).mono ?_); rintro e w1 ⟨rfl, hb1⟩))
      go_ret2
      exact ⟨rfl, hb1⟩
end Go.Proofs.YtakafhjnkcilkaaDoor
