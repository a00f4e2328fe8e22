/-
  The walk of next, over the bytes of a list.
-/
import Derived.Test.YtppgklmliklkkaaDoorGh
import Derived.Test.YtppgklmliklkkaaDoorGl
import Derived.Test.YtppgklmliklkkaaDoorGk
namespace Go.Proofs.YtppgklmliklkkaaDoor
open Go.RowKit

namespace Ru
/-- numbers as bytes -/
def arr (l : List Int) : ByteArray := ⟨(l.map fun x => UInt8.ofNat x.toNat).toArray⟩
theorem arr_size (l : List Int) : (arr l).size = l.length := by
  unfold arr
  rw [Lib.size_eq]
  simp
theorem arr_get {l : List Int} (hl : By l) (j : Nat) : (((arr l).get! j).toNat : Int) = g l j := by
  rw [← Lib.getD_get!']
  unfold arr g
  rw [List.getD_eq_getElem?_getD, List.getD_eq_getElem?_getD]
  rcases Nat.lt_or_ge j l.length with h | h
  · simp only [List.getElem?_map, List.getElem?_eq_getElem h, Option.map_some, Option.getD_some]
    have := hl l[j] (List.getElem_mem h)
    rw [UInt8.toNat_ofNat']
    omega
  · simp [List.getElem?_eq_none h]
end Ru

set_option maxRecDepth 100000 in
set_option maxHeartbeats 1000000 in
/-- what next tells -/
theorem next_any (l : List Int) (hl : Ru.By l) (h0 : l ≠ []) (b off cap : Nat) (w : World) (hm : l.length ≤ 9223372036854775807) (hcap : l.length ≤ cap) (hT : UTab w.heap.size w) (hp : ∀ j, j < l.length → w.cell? ⟨b, off + j, none⟩ = some (.int .u8 (Ru.g l j))) :
    Calls Tryd.prog 16 #[.slice (some ⟨b, off, none⟩) l.length cap] w fun e w' => e = .returned (.tuple #[.int .i32 (Ru.chL l), .int .i64 (Ru.wdL l : Nat)]) ∧ Below w.heap.size w w' := by
  have hlen := Ru.len_pos h0
  have hsz := Ru.arr_size l
  have y0 := hl.at_ 0
  obtain ⟨x0, hx0⟩ : ∃ x : Nat, (x : Int) = Ru.g l 0 := ⟨_, Ru.arr_get hl 0⟩
  obtain ⟨x1, hx1⟩ : ∃ x : Nat, (x : Int) = Ru.g l 1 := ⟨_, Ru.arr_get hl 1⟩
  obtain ⟨x2, hx2⟩ : ∃ x : Nat, (x : Int) = Ru.g l 2 := ⟨_, Ru.arr_get hl 2⟩
  obtain ⟨x3, hx3⟩ : ∃ x : Nat, (x : Int) = Ru.g l 3 := ⟨_, Ru.arr_get hl 3⟩
  have z0 := hl.at_ 0
  have z1 := hl.at_ 1
  have z2 := hl.at_ 2
  have z3 := hl.at_ 3
  have hdec : Lib.decodeGo (Ru.arr l) = Lib.decodeN l.length x0 x1 x2 x3 := by
    have a0 := Ru.arr_get hl 0
    have a1 := Ru.arr_get hl 1
    have a2 := Ru.arr_get hl 2
    have a3 := Ru.arr_get hl 3
    have : ¬ (Ru.arr l).size = 0 := by omega
    simp only [Lib.decodeGo, this, if_false]
    rw [Lib.decode_at, Nat.sub_zero, Nat.zero_add, Nat.zero_add, Nat.zero_add, hsz]
    congr 1 <;> omega
  have C := Tryd.utf8_DecodeRune (Ru.arr l) b off cap w hT.1 (fun j hj => by rw [hp j (by omega), ← Ru.arr_get hl j])
  rw [hdec, hsz] at C
  have hd0 := hp 0 (by omega)
  rw [Nat.add_zero, ← hx0] at hd0
  have hd1 : 1 < l.length → w.cell? ⟨b, off + 1, none⟩ = some (.int .u8 x1) := fun h => by rw [hp 1 h, hx1]
  have hd2 : 2 < l.length → w.cell? ⟨b, off + 2, none⟩ = some (.int .u8 x2) := fun h => by rw [hp 2 h, hx2]
  have hb : b < w.heap.size := World.block_lt_of_cell? w _ hd0
  have CB : Hid (∀ wr : World, Below w.heap.size w wr → Calls Tryd.prog 33 #[.slice (some ⟨b, off, none⟩) l.length cap] wr (Begun l.length x0 x1 x2 wr)) := Lib.hid fun wr hbel =>
    beginning_any l.length x0 x1 x2 b off cap wr hlen hm hcap ⟨(hT.below hbel).1, by have := hbel.size; have := hT.2; omega⟩ (by omega) ((hbel.cell (p := ⟨b, off, none⟩) hb).trans hd0) (fun h => (hbel.cell (p := ⟨b, off + 1, none⟩) hb).trans (hd1 h)) (fun h => (hbel.cell (p := ⟨b, off + 2, none⟩) hb).trans (hd2 h))
  rw [Ru.wdL_int h0]
  unfold Ru.chL
  have E1 := Ru.decode_is l.length x0 x1 x2 x3 hlen (by omega) (by omega) (by omega) (by omega)
  have E2 : ∀ k : Nat, ((Lib.decodeN l.length x0 x1 x2 x3).1 = 65533 ∧ (Lib.decodeN l.length x0 x1 x2 x3).2 = 1) → 1 ≤ k → k ≤ l.length → (k = 1 ∨ Ru.full k x0 x1 x2 = false) → (k = l.length ∨ Ru.full (k + 1 : Int) x0 x1 x2 = true) →
      (65533 : Int) = Ru.ch l.length (Ru.g l 0) (Ru.g l 1) (Ru.g l 2) (Ru.g l 3) ∧ (k : Int) = Ru.wd l.length (Ru.g l 0) (Ru.g l 1) (Ru.g l 2) (Ru.g l 3) := fun k h1 h2 h3 h4 h5 => by
    rw [← hx0, ← hx1, ← hx2, ← hx3]
    exact Ru.beginning_is l.length k x0 x1 x2 x3 hlen (by omega) (by omega) (by omega) (by omega) h1 h2 h3 h4 h5
  rw [hx0, hx1, hx2, hx3] at E1
  generalize Ru.ch l.length (Ru.g l 0) (Ru.g l 1) (Ru.g l 2) (Ru.g l 3) = c at *
  generalize Ru.wd l.length (Ru.g l 0) (Ru.g l 1) (Ru.g l 2) (Ru.g l 3) = d at *
  generalize Lib.decodeN l.length x0 x1 x2 x3 = D at *
  obtain ⟨D1, D2⟩ := D
  simp only at C E1 E2
  clear hdec hp z0 z1 z2 z3 y0 hsz hd0 hd1 hd2
  by_cases h : D1 = 65533 ∧ D2 = 1
  · obtain ⟨rfl, rfl⟩ := h
    have E := Lib.hid (fun k => E2 k ⟨rfl, rfl⟩)
    have C' := Lib.hid C
    clear E1 E2 C hx0 hx1 hx2 hx3
    go_enter Tryd.func16, Tryd.ntmps16
    go_wp2_with (first | (go_at_call 32; ((with_reducible refine (C'.out).mono ?_); rintro e w1 ⟨rfl, hb1⟩)) | (go_at_call 33; ((with_reducible refine (CB.out _ hb1).mono ?_); rintro e w2 ⟨k, rfl, k1, k2, k3, k4, hb2⟩)))
    go_ret2
    have hE := E.out k k1 k2 k3 k4
    exact ⟨ret_two hE.1 hE.2, hb1.trans (hb2.mono hb1.size)⟩
  · have hE := E1 h
    obtain ⟨rfl, rfl⟩ := hE
    have C' := Lib.hid C
    clear E1 E2 C hx0 hx1 hx2 hx3 CB
    by_cases h1 : D1 = 65533
    · subst h1
      have h2 : ¬ D2 = 1 := fun e => h ⟨rfl, e⟩
      have e2 : ((D2 : Int) == 1) = false := Ru.eq_f (by omega)
      clear h h2
      go_enter Tryd.func16, Tryd.ntmps16
      go_wp2_with (go_at_call 32; ((with_reducible refine (C'.out).mono ?_); rintro e w1 ⟨rfl, hb1⟩))
      go_ret2
      exact ⟨rfl, hb1⟩
    · have e1 : ((D1 : Int) == 65533) = false := Ru.eq_f (by omega)
      clear h h1
      go_enter Tryd.func16, Tryd.ntmps16
      go_wp2_with (go_at_call 32; ((with_reducible refine (C'.out).mono ?_); rintro e w1 ⟨rfl, hb1⟩))
      go_ret2
      exact ⟨rfl, hb1⟩
end Go.Proofs.YtppgklmliklkkaaDoor

/-
  The walk of Read: the characters of bytes.
-/
namespace Go.Proofs.YtppgklmliklkkaaDoor
open Go.RowKit

theorem Tryd.info21 : (Tryd.prog.info? 21).map (fun i => (i.zero, i.size, i.bytes)) = some (some (.int .i32 0), 1, 4) := by kernel_rfl

/-- what RuneCount tells: no more than bytes -/
def Counted (n : Nat) (w : World) (e : Ending) (w' : World) : Prop := ∃ c : Nat, e = .returned (.int .i64 c) ∧ c ≤ n ∧ Below w.heap.size w w'

set_option maxHeartbeats 400000 in
theorem rcount_zero (A : Option Addr) (cap : Nat) (w : World) :
    Calls Tryd.prog 15 #[.slice A 0 cap] w (Counted 0 w) := by
  go_enter Tryd.func15, Tryd.ntmps15
  go_wp2_with fail
  go_loop [4] (fun n => n = .int .i64 0) (fun _ => 0)
  case atStart => rfl
  case round =>
    subst hrel
    go_wp2_with fail
    go_ret
    exact ⟨0, rfl, Nat.le_refl _, Below.refl _ _⟩

theorem below_iter (w : World) (t : ByteArray) (pos : Nat) : Below w.heap.size w (w.iter t pos) := by
  unfold World.iter
  exact (Below.refl _ _).alloc (Nat.le_refl _) _

theorem rcount_any (l : List Int) (hl : Ru.By l) (A : Option Addr) (cap : Nat) (w : World) (hm : l.length ≤ 65536) (hcap : l.length ≤ cap) (hA : Bs w w.heap.size .u8 A l) :
    Calls Tryd.prog 15 #[.slice A l.length cap] w (Counted l.length w) := by
  by_cases h0 : l = []
  · subst h0
    exact rcount_zero A cap w
  · obtain ⟨b, off, rfl, _, hp⟩ := hA (Ru.len_pos h0)
    have hsz := Ru.arr_size l
    have C := Tryd.utf8_RuneCount (Ru.arr l) b off cap w (by omega) (fun j hj => by rw [hp j (by omega), ← Ru.arr_get hl j]) (by omega)
    rw [hsz] at C
    refine C.mono ?_
    rintro e w' ⟨he, hw⟩
    refine ⟨_, he, by have := Lib.runeCount_le (Ru.arr l); omega, ?_⟩
    rcases hw with rfl | ⟨t, pos, rfl⟩
    · exact Below.refl _ _
    · exact below_iter _ _ _

namespace Ru
/-- the ways of one round -/
inductive WayR (l : List Int) (k : Nat) (c : Int) (d t : Nat) : Prop
  | other (h : ((c : Int) == 13) = false) (ht : t = d)
  | last (h : ((c : Int) == 13) = true) (h2 : ¬ k + d < l.length) (ht : t = d)
  | lone (h : ((c : Int) == 13) = true) (h2 : k + d < l.length) (h3 : (g l (k + d) == 10) = false) (ht : t = d)
  | both (h : ((c : Int) == 13) = true) (h2 : k + d < l.length) (h3 : (g l (k + d) == 10) = true) (ht : t = d + 1)
theorem wayR (l : List Int) (k : Nat) (hk : k < l.length) : WayR l k (chL (l.drop k)) (wdL (l.drop k)) (st (l.drop k)) := by
  by_cases h : chL (l.drop k) = 13
  · by_cases h2 : k + wdL (l.drop k) < l.length
    · by_cases h3 : g l (k + wdL (l.drop k)) = 10
      · exact .both (eq_t h) h2 (eq_t h3) (by unfold st; rw [g_drop, if_pos ⟨h, by rw [List.length_drop]; omega, h3⟩])
      · exact .lone (eq_t h) h2 (eq_f h3) (by unfold st; rw [g_drop, if_neg (fun hh => h3 hh.2.2)])
    · exact .last (eq_t h) h2 (by unfold st; rw [if_neg (fun hh => h2 (by have := hh.2.1; rw [List.length_drop] at this; omega))])
  · exact .other (eq_f h) (by unfold st; rw [if_neg (fun hh => h hh.1)])
end Ru

/-- at the head of Read's loop -/
def ReadAt (w : World) (l : List Int) (v3 v4 : Value) (wr : World) : Prop :=
  ∃ (k : Nat) (ds : List Int), k ≤ l.length ∧ v4 = .int .i64 k ∧ Hid (Ru.rd l = ds ++ Ru.rd (l.drop k)) ∧ wr.ownsRow w.heap.size 21 1 v3 ds.length (nums .i32 ds) ∧ Below w.heap.size w wr ∧ ds.length ≤ k
set_option maxHeartbeats 1000000 in
set_option maxRecDepth 100000 in
theorem read_nil (A : Option Addr) (cap : Nat) (w : World) :
    Calls Tryd.prog 12 #[.slice A 0 cap] w (Made .i32 21 [] w) := by
  obtain ⟨i0, hi, hz0, hz1, hz2⟩ := info_parts Tryd.info21
  have CC := Lib.hid (rcount_zero A cap w)
  go_enter Tryd.func12, Tryd.ntmps12
  go_wp2_with (first | (go_at_call 15; ((with_reducible refine (CC.out).mono ?_); rintro e w0 ⟨c, rfl, hc, hb0⟩)) | (at_make; refine wpList_make_own _ rfl _ _ 41 rfl w.heap.size 21 i0 (.int .i32 0) 1 Tryd.underlying41 hi hz0 hz1 .i64 .i64 _ c rfl rfl rfl (by rw [hz2]; omega) (by unfold maxLen; omega) hb0.size ?_; intro w1 hown1 hgrow1))
  have hb1 : Below w.heap.size w w1 := hb0.grown hgrow1 hb0.size (by simp)
  have HB1 := Lib.hid hb1
  have HO1 := Lib.hid hown1
  clear hb1 hown1 hgrow1 hb0 CC
  go_wp2_with fail
  go_loopw [3, 4] (fun v3 v4 wr => v4 = .int .i64 0 ∧ wr.ownsRow w.heap.size 21 1 v3 0 [] ∧ Below w.heap.size w wr) (fun _ _ _ => 0)
  case atStart => exact ⟨rfl, HO1.out, HB1.out⟩
  case round =>
    obtain ⟨rfl, hown, hbel⟩ := hrel
    have HO := Lib.hid hown
    have HB := Lib.hid hbel
    clear hown hbel
    go_wp2_with fail
    go_ret
    exact ⟨_, rfl, HO.out, HB.out⟩

set_option maxHeartbeats 4000000 in
set_option maxRecDepth 100000 in
theorem read_cons (l : List Int) (hl : Ru.By l) (h0 : 0 < l.length) (b off cap : Nat) (w : World) (hm : l.length ≤ 65536) (hcap : l.length ≤ cap) (hT : UTab w.heap.size w) (hb : b < w.heap.size) (hp : ∀ j, j < l.length → w.cell? ⟨b, off + j, none⟩ = some (.int .u8 (Ru.g l j))) :
    Calls Tryd.prog 12 #[.slice (some ⟨b, off, none⟩) l.length cap] w (Made .i32 21 (Ru.rd l) w) := by
  obtain ⟨i0, hi, hz0, hz1, hz2⟩ := info_parts Tryd.info21
  have CC := Lib.hid (rcount_any l hl (some ⟨b, off, none⟩) cap w hm hcap (fun _ => ⟨b, off, rfl, hb, hp⟩))
  have CP : Hid (∀ (c : Int) (w : World), Calls Tryd.prog 17 #[.int .i32 c] w fun e w' => e = .returned (.int .i32 (Ru.plain c)) ∧ w = w') := Lib.hid plain_any
  have CX : Hid (∀ (k : Nat) (wr : World), k < l.length → Below w.heap.size w wr → Calls Tryd.prog 16 #[.slice (some ⟨b, off + k, none⟩) (l.length - k) (cap - k)] wr fun e w' => e = .returned (.tuple #[.int .i32 (Ru.chL (l.drop k)), .int .i64 (Ru.wdL (l.drop k) : Nat)]) ∧ Below wr.heap.size wr w') := Lib.hid fun k wr hk hbel => by
    have hlen : (l.drop k).length = l.length - k := by simp
    have := next_any (l.drop k) (hl.drop k) (fun h => by rw [h] at hlen; simp at hlen; omega) b (off + k) (cap - k) wr (by omega) (by omega) ⟨(hT.below hbel).1, by have := hbel.size; have := hT.2; omega⟩ (fun j hj => by
      rw [hlen] at hj
      rw [Nat.add_assoc, hbel.cell (p := ⟨b, off + (k + j), none⟩) hb, hp (k + j) (by omega), Ru.g_drop])
    rw [hlen] at this
    exact this
  have HP := Lib.hid hp
  have HBY := Lib.hid hl
  clear hT hl hp
  go_enter Tryd.func12, Tryd.ntmps12
  go_wp2_with (first | (go_at_call 15; ((with_reducible refine (CC.out).mono ?_); rintro e w0 ⟨c, rfl, hc, hb0⟩)) | (at_make; refine wpList_make_own _ rfl _ _ 41 rfl w.heap.size 21 i0 (.int .i32 0) 1 Tryd.underlying41 hi hz0 hz1 .i64 .i64 _ c rfl rfl rfl (by rw [hz2]; omega) (by unfold maxLen; omega) hb0.size ?_; intro w1 hown1 hgrow1))
  have hb1 : Below w.heap.size w w1 := hb0.grown hgrow1 hb0.size (by simp)
  have HB1 := Lib.hid hb1
  have HO1 := Lib.hid hown1
  clear hb1 hown1 hgrow1 hb0 CC
  go_wp2_with fail
  go_loopw [3, 4] (fun v3 v4 wr => ReadAt w l v3 v4 wr) (fun _ v4 _ => l.length - (RowKit.intOf v4).toNat)
  case atStart => exact ⟨0, [], Nat.zero_le _, rfl, Lib.hid rfl, HO1.out, HB1.out, Nat.le_refl _⟩
  case round =>
    obtain ⟨k, ds, hk, rfl, hrd, hown, hbel, hds⟩ := hrel
    have HO := Lib.hid hown
    have HB := Lib.hid hbel
    clear hown hbel HO1 HB1
    by_cases hlt : k < l.length
    · have hne : l.drop k ≠ [] := drop_ne hlt
      have CN : Hid (∀ wr : World, Below w.heap.size w wr → Calls Tryd.prog 16 #[.slice (some ⟨b, off + k, none⟩) (l.length - k) (cap - k)] wr fun e w' => e = .returned (.tuple #[.int .i32 (Ru.chL (l.drop k)), .int .i64 (Ru.wdL (l.drop k) : Nat)]) ∧ Below wr.heap.size wr w') := Lib.hid fun wr h => CX.out k wr hlt h
      have hway := Ru.wayR l k hlt
      have hwd := Ru.wdL_le hne
      have hst := Ru.st_le hne
      rw [List.length_drop] at hwd hst
      have hrd' : Hid (Ru.rd l = (ds ++ [Ru.plain (Ru.chL (l.drop k))]) ++ Ru.rd (l.drop (k + Ru.st (l.drop k)))) := Lib.hid (by
        rw [hrd.out, Ru.rd_cons hne, List.drop_drop, List.append_assoc]; rfl)
      have hcb : ¬ cap = k := by omega
      generalize Ru.chL (l.drop k) = c at *
      generalize Ru.wdL (l.drop k) = d at *
      generalize Ru.st (l.drop k) = t at *
      clear CX hrd hne
      obtain ⟨d1, d2, d3⟩ := hwd
      obtain ⟨t1, t2⟩ := hst
      have hkd : IntKind.i64.wrap ((k : Int) + (d : Int)) = ((k + d : Nat) : Int) := by rw [IntWalk.i64_in _ (by omega)]; omega
      rcases hway with ⟨h, rfl⟩ | ⟨h, h2, rfl⟩ | ⟨h, h2, h3, rfl⟩ | ⟨h, h2, h3, rfl⟩
      · go_wp2_with (first | (go_at_call 16; ((with_reducible refine (CN.out _ HB.out).mono ?_); rintro e w1 ⟨rfl, hb1⟩)) | (go_at_call 17; ((with_reducible refine (CP.out _ _).mono ?_); rintro e w2 ⟨rfl, rfl⟩)) | (at_builtin; refine wpList_append_own _ rfl _ _ 41 rfl w.heap.size 21 i0 (.int .i32 0) 1 4 Tryd.underlying41 hi hz0 hz1 hz2 rfl (by decide) _ _ _ rfl ((kept_below HO.out hb1 (Nat.le_refl _)).alloc _) ⟨w1.heap.size, 0, none⟩ 1 1 [.int .i32 (Ru.plain c)] rfl rfl ?c1 ?c2 ?c3 ?c4 ?c5 ?_))
        case c1 => exact one_cell _ _
        case c2 => simp [Value.oneCell']
        case c3 => unfold maxLen; omega
        case c4 => omega
        case c5 => have := HB.out.size; have := hb1.size; simp; omega
        intro v' w3 hown3 hgrow _
        have HO3 := Lib.hid (made_next HO.out HB.out hb1 hown3 hgrow)
        clear hown3 hgrow hb1
        go_wp2_with fail
        go_roundw
        case rel => exact ⟨k + t, ds ++ [Ru.plain c], by omega, by go_num, hrd', HO3.out.1, HO3.out.2, by simp; omega⟩
        case measure => simp [RowKit.intOf]; omega
      · go_wp2_with (first | (go_at_call 16; ((with_reducible refine (CN.out _ HB.out).mono ?_); rintro e w1 ⟨rfl, hb1⟩)) | (go_at_call 17; ((with_reducible refine (CP.out _ _).mono ?_); rintro e w2 ⟨rfl, rfl⟩)) | (at_builtin; refine wpList_append_own _ rfl _ _ 41 rfl w.heap.size 21 i0 (.int .i32 0) 1 4 Tryd.underlying41 hi hz0 hz1 hz2 rfl (by decide) _ _ _ rfl ((kept_below HO.out hb1 (Nat.le_refl _)).alloc _) ⟨w1.heap.size, 0, none⟩ 1 1 [.int .i32 (Ru.plain c)] rfl rfl ?c1 ?c2 ?c3 ?c4 ?c5 ?_))
        case c1 => exact one_cell _ _
        case c2 => simp [Value.oneCell']
        case c3 => unfold maxLen; omega
        case c4 => omega
        case c5 => have := HB.out.size; have := hb1.size; simp; omega
        intro v' w3 hown3 hgrow _
        have HO3 := Lib.hid (made_next HO.out HB.out hb1 hown3 hgrow)
        clear hown3 hgrow hb1
        go_wp2_with fail
        go_roundw
        case rel => exact ⟨k + t, ds ++ [Ru.plain c], by omega, by go_num, hrd', HO3.out.1, HO3.out.2, by simp; omega⟩
        case measure => simp [RowKit.intOf]; omega
      · have hcell := HP.out (k + t) h2
        go_wp2_with (first | (go_at_call 16; ((with_reducible refine (CN.out _ HB.out).mono ?_); rintro e w1 ⟨rfl, hb1⟩; have hc1 := (hb1.cell (p := ⟨b, off + (k + t), none⟩) (by have := HB.out.size; show b < _; omega)).trans ((HB.out.cell (p := ⟨b, off + (k + t), none⟩) hb).trans hcell))) | (go_at_call 17; ((with_reducible refine (CP.out _ _).mono ?_); rintro e w2 ⟨rfl, rfl⟩)) | (at_builtin; refine wpList_append_own _ rfl _ _ 41 rfl w.heap.size 21 i0 (.int .i32 0) 1 4 Tryd.underlying41 hi hz0 hz1 hz2 rfl (by decide) _ _ _ rfl ((kept_below HO.out hb1 (Nat.le_refl _)).alloc _) ⟨w1.heap.size, 0, none⟩ 1 1 [.int .i32 (Ru.plain c)] rfl rfl ?c1 ?c2 ?c3 ?c4 ?c5 ?_))
        case c1 => exact one_cell _ _
        case c2 => simp [Value.oneCell']
        case c3 => unfold maxLen; omega
        case c4 => omega
        case c5 => have := HB.out.size; have := hb1.size; simp; omega
        intro v' w3 hown3 hgrow _
        have HO3 := Lib.hid (made_next HO.out HB.out hb1 hown3 hgrow)
        clear hown3 hgrow hb1
        go_wp2_with fail
        go_roundw
        case rel => exact ⟨k + t, ds ++ [Ru.plain c], by omega, by go_num, hrd', HO3.out.1, HO3.out.2, by simp; omega⟩
        case measure => simp [RowKit.intOf]; omega
      · have hcell := HP.out (k + d) h2
        go_wp2_with (first | (go_at_call 16; ((with_reducible refine (CN.out _ HB.out).mono ?_); rintro e w1 ⟨rfl, hb1⟩; have hc1 := (hb1.cell (p := ⟨b, off + (k + d), none⟩) (by have := HB.out.size; show b < _; omega)).trans ((HB.out.cell (p := ⟨b, off + (k + d), none⟩) hb).trans hcell))) | (go_at_call 17; ((with_reducible refine (CP.out _ _).mono ?_); rintro e w2 ⟨rfl, rfl⟩)) | (at_builtin; refine wpList_append_own _ rfl _ _ 41 rfl w.heap.size 21 i0 (.int .i32 0) 1 4 Tryd.underlying41 hi hz0 hz1 hz2 rfl (by decide) _ _ _ rfl ((kept_below HO.out hb1 (Nat.le_refl _)).alloc _) ⟨w1.heap.size, 0, none⟩ 1 1 [.int .i32 (Ru.plain c)] rfl rfl ?c1 ?c2 ?c3 ?c4 ?c5 ?_))
        case c1 => exact one_cell _ _
        case c2 => simp [Value.oneCell']
        case c3 => unfold maxLen; omega
        case c4 => omega
        case c5 => have := HB.out.size; have := hb1.size; simp; omega
        intro v' w3 hown3 hgrow _
        have HO3 := Lib.hid (made_next HO.out HB.out hb1 hown3 hgrow)
        clear hown3 hgrow hb1
        go_wp2_with fail
        go_roundw
        case rel => exact ⟨k + (d + 1), ds ++ [Ru.plain c], by omega, by go_num, hrd', HO3.out.1, HO3.out.2, by simp; omega⟩
        case measure => simp [RowKit.intOf]; omega
    · obtain rfl : k = l.length := by omega
      have hd : Ru.rd l = ds := by rw [hrd.out, List.drop_length, Ru.rd_nil, List.append_nil]
      have HD := Lib.hid hd
      clear hd hrd CX
      go_wp2_with fail
      go_ret
      exact ⟨_, rfl, by rw [HD.out]; exact HO.out, HB.out⟩
end Go.Proofs.YtppgklmliklkkaaDoor

/-
  Words for laws that read: what a slice tells, a law's answer; Read in one.
-/
namespace Go.Proofs.YtppgklmliklkkaaDoor
open Go.RowKit

/-- a law's answer -/
def Yes (w : World) (e : Ending) (w' : World) : Prop := e = .returned (.bool true) ∧ Below w.heap.size w w'
/-- a slice that reads as numbers -/
def Told (k : IntKind) (l : List Int) (w : World) (e : Ending) (w' : World) : Prop :=
  ∃ (A : Option Addr) (cap : Nat), e = .returned (.slice A l.length cap) ∧ l.length ≤ cap ∧ Bs w' w'.heap.size k A l ∧ Below w.heap.size w w'
theorem own_form {w : World} {B : Nat} {k : IntKind} {E : TypeId} {l : List Int} {v : Value} (h : w.ownsRow B E 1 v l.length (nums k l)) : ∃ A cap, v = .slice A l.length cap ∧ l.length ≤ cap ∧ Bs w w.heap.size k A l := by
  rcases h.2 with ⟨rfl, h0⟩ | ⟨x, cap, cur, rfl, _, _, hc, _⟩
  · exact ⟨none, 0, by rw [h0], by omega, fun hl => by omega⟩
  · exact ⟨_, cap, rfl, hc, Bs.of_own h⟩
theorem told {k : IntKind} {E : TypeId} {l : List Int} {w : World} {e : Ending} {w' : World} (h : Made k E l w e w') : Told k l w e w' := by
  obtain ⟨v, rfl, hown, hb⟩ := h
  obtain ⟨A, cap, rfl, hc, hB⟩ := own_form hown
  exact ⟨A, cap, rfl, hc, hB, hb⟩
theorem below_next {w w1 w2 : World} (h : Below w.heap.size w w1) (h2 : Below w1.heap.size w1 w2) : Below w.heap.size w w2 := h.trans (h2.mono h.size)
theorem UTab.next {w w1 : World} (h : UTab w.heap.size w) (hb : Below w.heap.size w w1) : UTab w1.heap.size w1 := ⟨(h.below hb).1, by have := hb.size; have := h.2; omega⟩
theorem Bs.next {w w1 : World} {k : IntKind} {A : Option Addr} {l : List Int} (h : Bs w w.heap.size k A l) (hb : Below w.heap.size w w1) : Bs w1 w1.heap.size k A l := (h.below hb).more hb.size

namespace Ru
theorem rd_len' (l : List Int) : (rd l).length ≤ l.length := rd_len _ _
theorem rd_ok {l : List Int} (h : By l) : ∀ c ∈ rd l, Is c ∧ c ≠ 0 ∧ c ≠ 12 ∧ c ≠ 13 := rd_is _ _ h
theorem ok_range {l : List Int} (h : ∀ c ∈ l, Is c ∧ c ≠ 0 ∧ c ≠ 12 ∧ c ≠ 13) : ∀ c ∈ l, -2147483648 ≤ c ∧ c ≤ 2147483647 := fun c hc => by
  have := (h c hc).1
  unfold Is at this
  omega
end Ru

theorem read_told (l : List Int) (hl : Ru.By l) (A : Option Addr) (cap : Nat) (w : World) (hm : l.length ≤ 65536) (hcap : l.length ≤ cap) (hT : UTab w.heap.size w) (hA : Bs w w.heap.size .u8 A l) :
    Calls Tryd.prog 12 #[.slice A l.length cap] w (Made .i32 21 (Ru.rd l) w) := by
  by_cases h0 : 0 < l.length
  · obtain ⟨b, off, rfl, hb, hp⟩ := hA h0
    exact read_cons l hl h0 b off cap w hm hcap hT hb hp
  · have : l = [] := List.eq_nil_of_length_eq_zero (by omega)
    subst this
    exact read_nil A cap w

end Go.Proofs.YtppgklmliklkkaaDoor

/-
  The walk of Write.
-/
namespace Go.Proofs.YtppgklmliklkkaaDoor
open Go.RowKit

theorem write_next {w wr w3 : World} {v v' : Value} {l : List Int} {k : Nat} {x : Int} (hk : l.take (k + 1) = l.take k ++ [x])
    (hown : wr.ownsRow w.heap.size 5 1 v (Ru.wr (l.take k)).length (nums .u8 (Ru.wr (l.take k)))) (hbel : Below w.heap.size w wr)
    (hown3 : w3.ownsRow w.heap.size 5 1 v' ((Ru.wr (l.take k)).length + (Lib.runeCells x).length) (nums .u8 (Ru.wr (l.take k)) ++ Lib.runeCells x)) (hgrow : ∃ o, (wr.alloc o).grownBy w3 v.ownBlock) :
    w3.ownsRow w.heap.size 5 1 v' (Ru.wr (l.take (k + 1))).length (nums .u8 (Ru.wr (l.take (k + 1)))) ∧ Below w.heap.size w w3 := by
  obtain ⟨o, hgrow⟩ := hgrow
  refine ⟨?_, ?_⟩
  · rw [hk, Ru.wr_snoc, nums_app, List.length_append, ← cells_enc]
    rw [cells_enc] at hown3 ⊢
    rwa [nums_len] at hown3
  · have hs := hbel.size
    exact (hbel.alloc (by omega) o).grown hgrow (by simp; omega) (fun j hj => (hown.lt j hj).1)

set_option maxHeartbeats 1000000 in
set_option maxRecDepth 100000 in
theorem write_any (l : List Int) (A : Option Addr) (cap : Nat) (w : World) (hm : l.length ≤ 65536) (hcap : l.length ≤ cap) (hr : ∀ c ∈ l, -2147483648 ≤ c ∧ c ≤ 2147483647) (hA : Bs w w.heap.size .i32 A l) :
    Calls Tryd.prog 43 #[.slice A l.length cap] w (Made .u8 5 (Ru.wr l) w) := by
  obtain ⟨i0, hi, hz0, hz1, hz2⟩ := info_parts Tryd.info5
  have CA : Hid (∀ (v : Value) (n : Nat) (xs : List Value) (r : Int) (wq : World), -2147483648 ≤ r → r ≤ 2147483647 → wq.ownsRow w.heap.size 5 1 v n xs → n + 4 ≤ 140737488355328 → w.heap.size ≤ wq.heap.size →
      Calls Tryd.prog 55 #[v, .int .i32 r] wq fun e w' => ∃ v', e = .returned v' ∧ w'.ownsRow w.heap.size 5 1 v' (n + (Lib.runeCells r).length) (xs ++ Lib.runeCells r) ∧ ∃ o, (wq.alloc o).grownBy w' v.ownBlock) :=
    Lib.hid fun v n xs r wq h1 h2 h3 h4 h5 => Tryd.utf8_AppendRune_plain w.heap.size v n xs r h1 h2 wq h3 h4 h5
  have HA := Lib.hid hA
  have HR := Lib.hid hr
  clear hA hr
  by_cases h0 : 0 < l.length
  · obtain ⟨b, off, rfl, hb, hp⟩ := HA.out h0
    have HP := Lib.hid hp
    clear hp HA
    go_enter Tryd.func43, Tryd.ntmps43
    go_wp2_with (at_make; refine wpList_make_own _ rfl _ _ 22 rfl w.heap.size 5 i0 (.int .u8 0) 1 Tryd.underlying22 hi hz0 hz1 .i64 .i64 _ l.length rfl rfl rfl (by rw [hz2]; omega) (by unfold maxLen; omega) (Nat.le_refl _) ?_; intro w1 hown1 hgrow1; have HB1 := Lib.hid ((Below.refl w.heap.size w).grown hgrow1 (Nat.le_refl _) (by simp)); have HO1 := Lib.hid hown1; clear hown1 hgrow1)
    go_loopw [3, 11] (fun v3 v11 wr => WriteAt w l v3 v11 wr) (fun _ v11 _ => l.length - (RowKit.intOf v11).toNat)
    case atStart => exact ⟨0, Nat.zero_le _, rfl, HO1.out, HB1.out⟩
    case round =>
      obtain ⟨k, hk, rfl, hown, hbel⟩ := hrel
      have HO := Lib.hid hown
      have HB := Lib.hid hbel
      clear hown hbel HO1 HB1
      by_cases hlt : k < l.length
      · have hcell := (HB.out.cell (p := ⟨b, off + k, none⟩) hb).trans (HP.out k hlt)
        have hr := HR.out _ (List.getElem_mem hlt)
        rw [← Ru.g_eq hlt] at hr
        obtain ⟨r1, r2⟩ := hr
        have HN := Lib.hid (Ru.take_g hlt)
        have hc4 : (Ru.wr (l.take k)).length + 4 ≤ 140737488355328 := by have := Ru.wr_len (l.take k); have := List.length_take_le k l; omega
        generalize Ru.g l k = x at *
        go_wp2_with (go_at_call 55; ((with_reducible refine (CA.out _ _ _ _ _ r1 r2 HO.out hc4 HB.out.size).mono ?_); rintro e w3 ⟨v', rfl, hown3, hgrow⟩; have HO3 := Lib.hid (write_next HN.out HO.out HB.out hown3 hgrow); clear hown3 hgrow))
        go_roundw
        case rel => exact ⟨k + 1, by omega, by go_num, HO3.out.1, HO3.out.2⟩
        case measure => simp [RowKit.intOf]; omega
      · obtain rfl : k = l.length := by omega
        have hd : Hid (l.take l.length = l) := Lib.hid (List.take_length)
        clear HP
        go_wp2_with fail
        go_ret
        exact ⟨_, rfl, by have := HO.out; rw [hd.out] at this; exact this, HB.out⟩
  · have hl : l = [] := List.eq_nil_of_length_eq_zero (by omega)
    subst hl
    go_enter Tryd.func43, Tryd.ntmps43
    go_wp2_with (at_make; refine wpList_make_own _ rfl _ _ 22 rfl w.heap.size 5 i0 (.int .u8 0) 1 Tryd.underlying22 hi hz0 hz1 .i64 .i64 _ 0 rfl rfl rfl (by rw [hz2]; omega) (by unfold maxLen; omega) (Nat.le_refl _) ?_; intro w1 hown1 hgrow1; have HB1 := Lib.hid ((Below.refl w.heap.size w).grown hgrow1 (Nat.le_refl _) (by simp)); have HO1 := Lib.hid hown1; clear hown1 hgrow1)
    go_loopw [3, 11] (fun v3 v11 wr => v11 = .int .i64 0 ∧ wr.ownsRow w.heap.size 5 1 v3 0 [] ∧ Below w.heap.size w wr) (fun _ _ _ => 0)
    case atStart => exact ⟨rfl, HO1.out, HB1.out⟩
    case round =>
      obtain ⟨rfl, hown, hbel⟩ := hrel
      have HO := Lib.hid hown
      have HB := Lib.hid hbel
      clear hown hbel
      go_wp2_with fail
      go_ret
      exact ⟨_, rfl, HO.out, HB.out⟩
end Go.Proofs.YtppgklmliklkkaaDoor
