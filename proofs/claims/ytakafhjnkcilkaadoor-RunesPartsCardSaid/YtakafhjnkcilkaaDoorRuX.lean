/-
  The walk of Read: the characters of bytes.
-/
import Derived.Test.YtakafhjnkcilkaaDoorRuW
import Derived.OwnWalk
namespace Go.Proofs.YtakafhjnkcilkaaDoor
open Go.RowKit

theorem Tryd.info5 : (Tryd.prog.info? 5).map (fun i => (i.zero, i.size, i.bytes)) = some (some (.int .u8 0), 1, 1) := by kernel_rfl
theorem Tryd.info21 : (Tryd.prog.info? 21).map (fun i => (i.zero, i.size, i.bytes)) = some (some (.int .i32 0), 1, 4) := by kernel_rfl
theorem Tryd.info3 : (Tryd.prog.info? 3).map (fun i => (i.zero, i.size, i.bytes)) = some (some (.int .i64 0), 1, 8) := by kernel_rfl

/-- what RuneCount tells: no more than bytes -/
def Counted (n : Nat) (w : World) (e : Ending) (w' : World) : Prop := ∃ c : Nat, e = .returned (.int .i64 c) ∧ c ≤ n ∧ Below w.heap.size w w'

set_option maxHeartbeats 400000 in
theorem rcount_zero (A : Option Addr) (cap : Nat) (w : World) :
    Calls Tryd.prog 28 #[.slice A 0 cap] w (Counted 0 w) := by
  go_enter Tryd.func28, Tryd.ntmps28
  go_wp2_with fail
  go_loop [4] (fun n => n = .int .i64 0) (fun _ => 0)
  case atStart => rfl
  case round =>
    subst hrel
    go_wp2_with fail
    go_ret
    exact ⟨0, rfl, Nat.le_refl _, Below.refl _ _⟩

theorem below_iter (w : World) (t : ByteArray) (pos : Nat) : Below w.heap.size w (w.iter t pos) := by
  unfold World.iter
  exact (Below.refl _ _).alloc (Nat.le_refl _) _

theorem rcount_any (l : List Int) (hl : Ru.By l) (A : Option Addr) (cap : Nat) (w : World) (hm : l.length ≤ 65536) (hcap : l.length ≤ cap) (hA : Bs w w.heap.size .u8 A l) :
    Calls Tryd.prog 28 #[.slice A l.length cap] w (Counted l.length w) := by
  by_cases h0 : l = []
  · subst h0
    exact rcount_zero A cap w
  · obtain ⟨b, off, rfl, _, hp⟩ := hA (Ru.len_pos h0)
    have hsz := Ru.arr_size l
    have C := Tryd.utf8_RuneCount (Ru.arr l) b off cap w (by omega) (fun j hj => by rw [hp j (by omega), ← Ru.arr_get hl j]) (by omega)
    rw [hsz] at C
    refine C.mono ?_
    rintro e w' ⟨he, hw⟩
    refine ⟨_, he, by have := Lib.runeCount_le (Ru.arr l); omega, ?_⟩
    rcases hw with rfl | ⟨t, pos, rfl⟩
    · exact Below.refl _ _
    · exact below_iter _ _ _

namespace Ru
theorem g_drop (l : List Int) (k j : Nat) : g (l.drop k) j = g l (k + j) := by
  unfold g; rw [List.getD_eq_getElem?_getD, List.getD_eq_getElem?_getD, List.getElem?_drop]
/-- the ways of one round -/
inductive WayR (l : List Int) (k : Nat) (c : Int) (d t : Nat) : Prop
  | other (h : ((c : Int) == 13) = false) (ht : t = d)
  | last (h : ((c : Int) == 13) = true) (h2 : ¬ k + d < l.length) (ht : t = d)
  | lone (h : ((c : Int) == 13) = true) (h2 : k + d < l.length) (h3 : (g l (k + d) == 10) = false) (ht : t = d)
  | both (h : ((c : Int) == 13) = true) (h2 : k + d < l.length) (h3 : (g l (k + d) == 10) = true) (ht : t = d + 1)
theorem wayR (l : List Int) (k : Nat) (hk : k < l.length) : WayR l k (chL (l.drop k)) (wdL (l.drop k)) (st (l.drop k)) := by
  by_cases h : chL (l.drop k) = 13
  · by_cases h2 : k + wdL (l.drop k) < l.length
    · by_cases h3 : g l (k + wdL (l.drop k)) = 10
      · exact .both (eq_t h) h2 (eq_t h3) (by unfold st; rw [g_drop, if_pos ⟨h, by rw [List.length_drop]; omega, h3⟩])
      · exact .lone (eq_t h) h2 (eq_f h3) (by unfold st; rw [g_drop, if_neg (fun hh => h3 hh.2.2)])
    · exact .last (eq_t h) h2 (by unfold st; rw [if_neg (fun hh => h2 (by have := hh.2.1; rw [List.length_drop] at this; omega))])
  · exact .other (eq_f h) (by unfold st; rw [if_neg (fun hh => h hh.1)])
end Ru

/-- at the head of Read's loop -/
def ReadAt (w : World) (l : List Int) (v3 v4 : Value) (wr : World) : Prop :=
  ∃ (k : Nat) (ds : List Int), k ≤ l.length ∧ v4 = .int .i64 k ∧ Hid (Ru.rd l = ds ++ Ru.rd (l.drop k)) ∧ wr.ownsRow w.heap.size 21 1 v3 ds.length (nums .i32 ds) ∧ Below w.heap.size w wr ∧ ds.length ≤ k
/-- a new row of numbers -/
def Made (k : IntKind) (E : TypeId) (l : List Int) (w : World) (e : Ending) (w' : World) : Prop :=
  ∃ v, e = .returned v ∧ w'.ownsRow w.heap.size E 1 v l.length (nums k l) ∧ Below w.heap.size w w'

theorem one_cell (w : World) (u : Value) {E : TypeId} : ∀ (j : Nat) (x : Value), [u][j]? = some x → (w.alloc (.cells #[u] E)).cell? ((⟨w.heap.size, 0, none⟩ : Addr).add j) = some x := by
  intro j x hj
  match j, hj with
  | 0, hj => simp only [List.getElem?_cons_zero, Option.some.injEq] at hj; subst hj; simp [Addr.add, go_sem]
theorem made_next {w wr w1 w3 : World} {o : Obj} {k : IntKind} {E : TypeId} {v v' : Value} {ds : List Int} {x : Int} (hown : wr.ownsRow w.heap.size E 1 v ds.length (nums k ds)) (hbel : Below w.heap.size w wr) (hb1 : Below wr.heap.size wr w1)
    (hown3 : w3.ownsRow w.heap.size E 1 v' (ds.length + 1) (nums k ds ++ [.int k x])) (hgrow : (w1.alloc o).grownBy w3 v.ownBlock) :
    w3.ownsRow w.heap.size E 1 v' (ds ++ [x]).length (nums k (ds ++ [x])) ∧ Below w.heap.size w w3 := by
  refine ⟨?_, ?_⟩
  · rw [nums_app, List.length_append]; exact hown3
  · have hs := hbel.size
    have hs1 := hb1.size
    exact ((hbel.trans (hb1.mono hs)).alloc (by omega) o).grown hgrow (by simp; omega) (fun j hj => (hown.lt j hj).1)
theorem drop_ne {l : List Int} {k : Nat} (h : k < l.length) : l.drop k ≠ [] := fun e => by
  have h2 : (l.drop k).length = 0 := by rw [e]; rfl
  rw [List.length_drop] at h2
  omega
theorem kept_below {w w1 : World} {base B : Nat} {e : TypeId} {size n : Nat} {v : Value} {xs : List Value} (h : w.ownsRow base e size v n xs) (hb : Below B w w1) (hB : w.heap.size ≤ B) : w1.ownsRow base e size v n xs :=
  h.kept (row := none) ⟨hb.os, hb.tape, hb.output, hb.size, fun k hk _ => hb.block k (by omega)⟩ (by cases v.ownBlock <;> simp)

set_option maxHeartbeats 1000000 in
set_option maxRecDepth 100000 in
theorem read_nil (A : Option Addr) (cap : Nat) (w : World) :
    Calls Tryd.prog 13 #[.slice A 0 cap] w (Made .i32 21 [] w) := by
  obtain ⟨i0, hi, hz0, hz1, hz2⟩ := info_parts Tryd.info21
  have CC := Lib.hid (rcount_zero A cap w)
  go_enter Tryd.func13, Tryd.ntmps13
  go_wp2_with (first | (go_at_call 28; ((with_reducible refine (CC.out).mono ?_); rintro e w0 ⟨c, rfl, hc, hb0⟩)) | (at_make; refine wpList_make_own _ rfl _ _ 27 rfl w.heap.size 21 i0 (.int .i32 0) 1 Tryd.underlying27 hi hz0 hz1 .i64 .i64 _ c rfl rfl rfl (by rw [hz2]; omega) (by unfold maxLen; omega) hb0.size ?_; intro w1 hown1 hgrow1))
  have hb1 : Below w.heap.size w w1 := hb0.grown hgrow1 hb0.size (by simp)
  have HB1 := Lib.hid hb1
  have HO1 := Lib.hid hown1
  clear hb1 hown1 hgrow1 hb0 CC
  go_wp2_with fail
  go_loopw [3, 4] (fun v3 v4 wr => v4 = .int .i64 0 ∧ wr.ownsRow w.heap.size 21 1 v3 0 [] ∧ Below w.heap.size w wr) (fun _ _ _ => 0)
  case atStart => exact ⟨rfl, HO1.out, HB1.out⟩
  case round =>
    obtain ⟨rfl, hown, hbel⟩ := hrel
    have HO := Lib.hid hown
    have HB := Lib.hid hbel
    clear hown hbel
    go_wp2_with fail
    go_ret
    exact ⟨_, rfl, HO.out, HB.out⟩

set_option maxHeartbeats 4000000 in
set_option maxRecDepth 100000 in
theorem read_cons (l : List Int) (hl : Ru.By l) (h0 : 0 < l.length) (b off cap : Nat) (w : World) (hm : l.length ≤ 65536) (hcap : l.length ≤ cap) (hT : Tab w.heap.size w) (hb : b < w.heap.size) (hp : ∀ j, j < l.length → w.cell? ⟨b, off + j, none⟩ = some (.int .u8 (Ru.g l j))) :
    Calls Tryd.prog 13 #[.slice (some ⟨b, off, none⟩) l.length cap] w (Made .i32 21 (Ru.rd l) w) := by
  obtain ⟨i0, hi, hz0, hz1, hz2⟩ := info_parts Tryd.info21
  have CC := Lib.hid (rcount_any l hl (some ⟨b, off, none⟩) cap w hm hcap (fun _ => ⟨b, off, rfl, hb, hp⟩))
  have CP : Hid (∀ (c : Int) (w : World), Calls Tryd.prog 30 #[.int .i32 c] w fun e w' => e = .returned (.int .i32 (Ru.plain c)) ∧ w = w') := Lib.hid plain_any
  have CX : Hid (∀ (k : Nat) (wr : World), k < l.length → Below w.heap.size w wr → Calls Tryd.prog 29 #[.slice (some ⟨b, off + k, none⟩) (l.length - k) (cap - k)] wr fun e w' => e = .returned (.tuple #[.int .i32 (Ru.chL (l.drop k)), .int .i64 (Ru.wdL (l.drop k) : Nat)]) ∧ Below wr.heap.size wr w') := Lib.hid fun k wr hk hbel => by
    have hlen : (l.drop k).length = l.length - k := by simp
    have := next_any (l.drop k) (hl.drop k) (fun h => by rw [h] at hlen; simp at hlen; omega) b (off + k) (cap - k) wr (by omega) (by omega) ⟨(hT.below hbel).1, by have := hbel.size; have := hT.2; omega⟩ (fun j hj => by
      rw [hlen] at hj
      rw [Nat.add_assoc, hbel.cell (p := ⟨b, off + (k + j), none⟩) hb, hp (k + j) (by omega), Ru.g_drop])
    rw [hlen] at this
    exact this
  have HP := Lib.hid hp
  have HBY := Lib.hid hl
  clear hT hl hp
  go_enter Tryd.func13, Tryd.ntmps13
  go_wp2_with (first | (go_at_call 28; ((with_reducible refine (CC.out).mono ?_); rintro e w0 ⟨c, rfl, hc, hb0⟩)) | (at_make; refine wpList_make_own _ rfl _ _ 27 rfl w.heap.size 21 i0 (.int .i32 0) 1 Tryd.underlying27 hi hz0 hz1 .i64 .i64 _ c rfl rfl rfl (by rw [hz2]; omega) (by unfold maxLen; omega) hb0.size ?_; intro w1 hown1 hgrow1))
  have hb1 : Below w.heap.size w w1 := hb0.grown hgrow1 hb0.size (by simp)
  have HB1 := Lib.hid hb1
  have HO1 := Lib.hid hown1
  clear hb1 hown1 hgrow1 hb0 CC
  go_wp2_with fail
  go_loopw [3, 4] (fun v3 v4 wr => ReadAt w l v3 v4 wr) (fun _ v4 _ => l.length - (RowKit.intOf v4).toNat)
  case atStart => exact ⟨0, [], Nat.zero_le _, rfl, Lib.hid rfl, HO1.out, HB1.out, Nat.le_refl _⟩
  case round =>
    obtain ⟨k, ds, hk, rfl, hrd, hown, hbel, hds⟩ := hrel
    have HO := Lib.hid hown
    have HB := Lib.hid hbel
    clear hown hbel HO1 HB1
    by_cases hlt : k < l.length
    · have hne : l.drop k ≠ [] := drop_ne hlt
      have CN : Hid (∀ wr : World, Below w.heap.size w wr → Calls Tryd.prog 29 #[.slice (some ⟨b, off + k, none⟩) (l.length - k) (cap - k)] wr fun e w' => e = .returned (.tuple #[.int .i32 (Ru.chL (l.drop k)), .int .i64 (Ru.wdL (l.drop k) : Nat)]) ∧ Below wr.heap.size wr w') := Lib.hid fun wr h => CX.out k wr hlt h
      have hway := Ru.wayR l k hlt
      have hwd := Ru.wdL_le hne
      have hst := Ru.st_le hne
      rw [List.length_drop] at hwd hst
      have hrd' : Hid (Ru.rd l = (ds ++ [Ru.plain (Ru.chL (l.drop k))]) ++ Ru.rd (l.drop (k + Ru.st (l.drop k)))) := Lib.hid (by
        rw [hrd.out, Ru.rd_cons hne, List.drop_drop, List.append_assoc]; rfl)
      have hcb : ¬ cap = k := by omega
      generalize Ru.chL (l.drop k) = c at *
      generalize Ru.wdL (l.drop k) = d at *
      generalize Ru.st (l.drop k) = t at *
      clear CX hrd hne
      obtain ⟨d1, d2, d3⟩ := hwd
      obtain ⟨t1, t2⟩ := hst
      have hkd : IntKind.i64.wrap ((k : Int) + (d : Int)) = ((k + d : Nat) : Int) := by rw [IntWalk.i64_in _ (by omega)]; omega
      rcases hway with ⟨h, rfl⟩ | ⟨h, h2, rfl⟩ | ⟨h, h2, h3, rfl⟩ | ⟨h, h2, h3, rfl⟩
      · go_wp2_with (first | (go_at_call 29; ((with_reducible refine (CN.out _ HB.out).mono ?_); rintro e w1 ⟨rfl, hb1⟩)) | (go_at_call 30; ((with_reducible refine (CP.out _ _).mono ?_); rintro e w2 ⟨rfl, rfl⟩)) | (at_builtin; refine wpList_append_own _ rfl _ _ 27 rfl w.heap.size 21 i0 (.int .i32 0) 1 4 Tryd.underlying27 hi hz0 hz1 hz2 rfl (by decide) _ _ _ rfl ((kept_below HO.out hb1 (Nat.le_refl _)).alloc _) ⟨w1.heap.size, 0, none⟩ 1 1 [.int .i32 (Ru.plain c)] rfl rfl ?c1 ?c2 ?c3 ?c4 ?c5 ?_))
        case c1 => exact one_cell _ _
        case c2 => simp [Value.oneCell']
        case c3 => unfold maxLen; omega
        case c4 => omega
        case c5 => have := HB.out.size; have := hb1.size; simp; omega
        intro v' w3 hown3 hgrow _
        have HO3 := Lib.hid (made_next HO.out HB.out hb1 hown3 hgrow)
        clear hown3 hgrow hb1
        go_wp2_with fail
        go_roundw
        case rel => exact ⟨k + t, ds ++ [Ru.plain c], by omega, by go_num, hrd', HO3.out.1, HO3.out.2, by simp; omega⟩
        case measure => simp [RowKit.intOf]; omega
      · go_wp2_with (first | (go_at_call 29; ((with_reducible refine (CN.out _ HB.out).mono ?_); rintro e w1 ⟨rfl, hb1⟩)) | (go_at_call 30; ((with_reducible refine (CP.out _ _).mono ?_); rintro e w2 ⟨rfl, rfl⟩)) | (at_builtin; refine wpList_append_own _ rfl _ _ 27 rfl w.heap.size 21 i0 (.int .i32 0) 1 4 Tryd.underlying27 hi hz0 hz1 hz2 rfl (by decide) _ _ _ rfl ((kept_below HO.out hb1 (Nat.le_refl _)).alloc _) ⟨w1.heap.size, 0, none⟩ 1 1 [.int .i32 (Ru.plain c)] rfl rfl ?c1 ?c2 ?c3 ?c4 ?c5 ?_))
        case c1 => exact one_cell _ _
        case c2 => simp [Value.oneCell']
        case c3 => unfold maxLen; omega
        case c4 => omega
        case c5 => have := HB.out.size; have := hb1.size; simp; omega
        intro v' w3 hown3 hgrow _
        have HO3 := Lib.hid (made_next HO.out HB.out hb1 hown3 hgrow)
        clear hown3 hgrow hb1
        go_wp2_with fail
        go_roundw
        case rel => exact ⟨k + t, ds ++ [Ru.plain c], by omega, by go_num, hrd', HO3.out.1, HO3.out.2, by simp; omega⟩
        case measure => simp [RowKit.intOf]; omega
      · have hcell := HP.out (k + t) h2
        go_wp2_with (first | (go_at_call 29; ((with_reducible refine (CN.out _ HB.out).mono ?_); rintro e w1 ⟨rfl, hb1⟩; have hc1 := (hb1.cell (p := ⟨b, off + (k + t), none⟩) (by have := HB.out.size; show b < _; omega)).trans ((HB.out.cell (p := ⟨b, off + (k + t), none⟩) hb).trans hcell))) | (go_at_call 30; ((with_reducible refine (CP.out _ _).mono ?_); rintro e w2 ⟨rfl, rfl⟩)) | (at_builtin; refine wpList_append_own _ rfl _ _ 27 rfl w.heap.size 21 i0 (.int .i32 0) 1 4 Tryd.underlying27 hi hz0 hz1 hz2 rfl (by decide) _ _ _ rfl ((kept_below HO.out hb1 (Nat.le_refl _)).alloc _) ⟨w1.heap.size, 0, none⟩ 1 1 [.int .i32 (Ru.plain c)] rfl rfl ?c1 ?c2 ?c3 ?c4 ?c5 ?_))
        case c1 => exact one_cell _ _
        case c2 => simp [Value.oneCell']
        case c3 => unfold maxLen; omega
        case c4 => omega
        case c5 => have := HB.out.size; have := hb1.size; simp; omega
        intro v' w3 hown3 hgrow _
        have HO3 := Lib.hid (made_next HO.out HB.out hb1 hown3 hgrow)
        clear hown3 hgrow hb1
        go_wp2_with fail
        go_roundw
        case rel => exact ⟨k + t, ds ++ [Ru.plain c], by omega, by go_num, hrd', HO3.out.1, HO3.out.2, by simp; omega⟩
        case measure => simp [RowKit.intOf]; omega
      · have hcell := HP.out (k + d) h2
        go_wp2_with (first | (go_at_call 29; ((with_reducible refine (CN.out _ HB.out).mono ?_); rintro e w1 ⟨rfl, hb1⟩; have hc1 := (hb1.cell (p := ⟨b, off + (k + d), none⟩) (by have := HB.out.size; show b < _; omega)).trans ((HB.out.cell (p := ⟨b, off + (k + d), none⟩) hb).trans hcell))) | (go_at_call 30; ((with_reducible refine (CP.out _ _).mono ?_); rintro e w2 ⟨rfl, rfl⟩)) | (at_builtin; refine wpList_append_own _ rfl _ _ 27 rfl w.heap.size 21 i0 (.int .i32 0) 1 4 Tryd.underlying27 hi hz0 hz1 hz2 rfl (by decide) _ _ _ rfl ((kept_below HO.out hb1 (Nat.le_refl _)).alloc _) ⟨w1.heap.size, 0, none⟩ 1 1 [.int .i32 (Ru.plain c)] rfl rfl ?c1 ?c2 ?c3 ?c4 ?c5 ?_))
        case c1 => exact one_cell _ _
        case c2 => simp [Value.oneCell']
        case c3 => unfold maxLen; omega
        case c4 => omega
        case c5 => have := HB.out.size; have := hb1.size; simp; omega
        intro v' w3 hown3 hgrow _
        have HO3 := Lib.hid (made_next HO.out HB.out hb1 hown3 hgrow)
        clear hown3 hgrow hb1
        go_wp2_with fail
        go_roundw
        case rel => exact ⟨k + (d + 1), ds ++ [Ru.plain c], by omega, by go_num, hrd', HO3.out.1, HO3.out.2, by simp; omega⟩
        case measure => simp [RowKit.intOf]; omega
    · obtain rfl : k = l.length := by omega
      have hd : Ru.rd l = ds := by rw [hrd.out, List.drop_length, Ru.rd_nil, List.append_nil]
      have HD := Lib.hid hd
      clear hd hrd CX
      go_wp2_with fail
      go_ret
      exact ⟨_, rfl, by rw [HD.out]; exact HO.out, HB.out⟩
end Go.Proofs.YtakafhjnkcilkaaDoor
