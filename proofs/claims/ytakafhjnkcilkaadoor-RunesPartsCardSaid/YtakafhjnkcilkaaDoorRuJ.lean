/-
  The walks of Write, and of the reference's Bytes and Write.
-/
import Derived.Test.YtakafhjnkcilkaaDoorRuI
import Derived.Maps.AppendAt
namespace Go.Proofs.YtakafhjnkcilkaaDoor
open Go.RowKit

namespace Ru
/-- the bytes of characters -/
def wr (l : List Int) : List Int := l.flatMap Lib.encodeRuneZ
theorem wr_snoc (l : List Int) (c : Int) : wr (l ++ [c]) = wr l ++ Lib.encodeRuneZ c := by unfold wr; simp
theorem wr_len (l : List Int) : (wr l).length ≤ 4 * l.length := by
  induction l with
  | nil => simp [wr]
  | cons c t ih =>
    have := (Lib.encodeRuneZ_length c).2
    unfold wr at *
    rw [List.flatMap_cons, List.length_append, List.length_cons]
    omega
theorem wr_by (l : List Int) : By (wr l) := fun c hc => by
  unfold wr at hc
  obtain ⟨x, _, hx⟩ := List.mem_flatMap.1 hc
  exact Lib.encodeRuneZ_byte x c hx
end Ru
theorem cells_enc (c : Int) : Lib.runeCells c = nums .u8 (Lib.encodeRuneZ c) := rfl

def WriteAt (w : World) (l : List Int) (v3 v11 : Value) (wr : World) : Prop :=
  ∃ k : Nat, k ≤ l.length ∧ v11 = .int .i64 k ∧ wr.ownsRow w.heap.size 5 1 v3 (Ru.wr (l.take k)).length (nums .u8 (Ru.wr (l.take k))) ∧ Below w.heap.size w wr

theorem write_next {w wr w3 : World} {v v' : Value} {l : List Int} {k : Nat} {x : Int} (hk : l.take (k + 1) = l.take k ++ [x])
    (hown : wr.ownsRow w.heap.size 5 1 v (Ru.wr (l.take k)).length (nums .u8 (Ru.wr (l.take k)))) (hbel : Below w.heap.size w wr)
    (hown3 : w3.ownsRow w.heap.size 5 1 v' ((Ru.wr (l.take k)).length + (Lib.runeCells x).length) (nums .u8 (Ru.wr (l.take k)) ++ Lib.runeCells x)) (hgrow : ∃ o, (wr.alloc o).grownBy w3 v.ownBlock) :
    w3.ownsRow w.heap.size 5 1 v' (Ru.wr (l.take (k + 1))).length (nums .u8 (Ru.wr (l.take (k + 1)))) ∧ Below w.heap.size w w3 := by
  obtain ⟨o, hgrow⟩ := hgrow
  refine ⟨?_, ?_⟩
  · rw [hk, Ru.wr_snoc, nums_app, List.length_append, ← cells_enc]
    rw [cells_enc] at hown3 ⊢
    rwa [nums_len] at hown3
  · have hs := hbel.size
    exact (hbel.alloc (by omega) o).grown hgrow (by simp; omega) (fun j hj => (hown.lt j hj).1)

set_option maxHeartbeats 1000000 in
set_option maxRecDepth 100000 in
theorem write_any (l : List Int) (A : Option Addr) (cap : Nat) (w : World) (hm : l.length ≤ 65536) (hcap : l.length ≤ cap) (hr : ∀ c ∈ l, -2147483648 ≤ c ∧ c ≤ 2147483647) (hA : Bs w w.heap.size .i32 A l) :
    Calls Tryd.prog 15 #[.slice A l.length cap] w (Made .u8 5 (Ru.wr l) w) := by
  obtain ⟨i0, hi, hz0, hz1, hz2⟩ := info_parts Tryd.info5
  have CA : Hid (∀ (v : Value) (n : Nat) (xs : List Value) (r : Int) (wq : World), -2147483648 ≤ r → r ≤ 2147483647 → wq.ownsRow w.heap.size 5 1 v n xs → n + 4 ≤ 140737488355328 → w.heap.size ≤ wq.heap.size →
      Calls Tryd.prog 32 #[v, .int .i32 r] wq fun e w' => ∃ v', e = .returned v' ∧ w'.ownsRow w.heap.size 5 1 v' (n + (Lib.runeCells r).length) (xs ++ Lib.runeCells r) ∧ ∃ o, (wq.alloc o).grownBy w' v.ownBlock) :=
    Lib.hid fun v n xs r wq h1 h2 h3 h4 h5 => Tryd.utf8_AppendRune_plain w.heap.size v n xs r h1 h2 wq h3 h4 h5
  have HA := Lib.hid hA
  have HR := Lib.hid hr
  clear hA hr
  by_cases h0 : 0 < l.length
  · obtain ⟨b, off, rfl, hb, hp⟩ := HA.out h0
    have HP := Lib.hid hp
    clear hp HA
    go_enter Tryd.func15, Tryd.ntmps15
    go_wp2_with (at_make; refine wpList_make_own _ rfl _ _ 22 rfl w.heap.size 5 i0 (.int .u8 0) 1 Tryd.underlying22 hi hz0 hz1 .i64 .i64 _ l.length rfl rfl rfl (by rw [hz2]; omega) (by unfold maxLen; omega) (Nat.le_refl _) ?_; intro w1 hown1 hgrow1; have HB1 := Lib.hid ((Below.refl w.heap.size w).grown hgrow1 (Nat.le_refl _) (by simp)); have HO1 := Lib.hid hown1; clear hown1 hgrow1)
    go_loopw [3, 11] (fun v3 v11 wr => WriteAt w l v3 v11 wr) (fun _ v11 _ => l.length - (RowKit.intOf v11).toNat)
    case atStart => exact ⟨0, Nat.zero_le _, rfl, HO1.out, HB1.out⟩
    case round =>
      obtain ⟨k, hk, rfl, hown, hbel⟩ := hrel
      have HO := Lib.hid hown
      have HB := Lib.hid hbel
      clear hown hbel HO1 HB1
      by_cases hlt : k < l.length
      · have hcell := (HB.out.cell (p := ⟨b, off + k, none⟩) hb).trans (HP.out k hlt)
        have hr := HR.out _ (List.getElem_mem hlt)
        rw [← Ru.g_eq hlt] at hr
        obtain ⟨r1, r2⟩ := hr
        have HN := Lib.hid (Ru.take_g hlt)
        have hc4 : (Ru.wr (l.take k)).length + 4 ≤ 140737488355328 := by have := Ru.wr_len (l.take k); have := List.length_take_le k l; omega
        generalize Ru.g l k = x at *
        go_wp2_with (go_at_call 32; ((with_reducible refine (CA.out _ _ _ _ _ r1 r2 HO.out hc4 HB.out.size).mono ?_); rintro e w3 ⟨v', rfl, hown3, hgrow⟩; have HO3 := Lib.hid (write_next HN.out HO.out HB.out hown3 hgrow); clear hown3 hgrow))
        go_roundw
        case rel => exact ⟨k + 1, by omega, by go_num, HO3.out.1, HO3.out.2⟩
        case measure => simp [RowKit.intOf]; omega
      · obtain rfl : k = l.length := by omega
        have hd : Hid (l.take l.length = l) := Lib.hid (List.take_length)
        clear HP
        go_wp2_with fail
        go_ret
        exact ⟨_, rfl, by have := HO.out; rw [hd.out] at this; exact this, HB.out⟩
  · have hl : l = [] := List.eq_nil_of_length_eq_zero (by omega)
    subst hl
    go_enter Tryd.func15, Tryd.ntmps15
    go_wp2_with (at_make; refine wpList_make_own _ rfl _ _ 22 rfl w.heap.size 5 i0 (.int .u8 0) 1 Tryd.underlying22 hi hz0 hz1 .i64 .i64 _ 0 rfl rfl rfl (by rw [hz2]; omega) (by unfold maxLen; omega) (Nat.le_refl _) ?_; intro w1 hown1 hgrow1; have HB1 := Lib.hid ((Below.refl w.heap.size w).grown hgrow1 (Nat.le_refl _) (by simp)); have HO1 := Lib.hid hown1; clear hown1 hgrow1)
    go_loopw [3, 11] (fun v3 v11 wr => v11 = .int .i64 0 ∧ wr.ownsRow w.heap.size 5 1 v3 0 [] ∧ Below w.heap.size w wr) (fun _ _ _ => 0)
    case atStart => exact ⟨rfl, HO1.out, HB1.out⟩
    case round =>
      obtain ⟨rfl, hown, hbel⟩ := hrel
      have HO := Lib.hid hown
      have HB := Lib.hid hbel
      clear hown hbel
      go_wp2_with fail
      go_ret
      exact ⟨_, rfl, HO.out, HB.out⟩
end Go.Proofs.YtakafhjnkcilkaaDoor
