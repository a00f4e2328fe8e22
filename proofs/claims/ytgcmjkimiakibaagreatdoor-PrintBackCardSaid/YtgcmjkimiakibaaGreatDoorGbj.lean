/-
  The walk of newScanner.
-/
import Derived.Test.YtgcmjkimiakibaaGreatDoorGbb
import Derived.Test.YtgcmjkimiakibaaGreatDoorGae
import Derived.Test.YtgcmjkimiakibaaGreatDoorGac
import Derived.OwnWalk
import Derived.Test.YtgcmjkimiakibaaGreatDoorGbi
import Derived.Test.YtgcmjkimiakibaaGreatDoorGaq
import Derived.Test.YtgcmjkimiakibaaGreatDoorGas
import Derived.Test.YtgcmjkimiakibaaGreatDoorGat
import Derived.Test.YtgcmjkimiakibaaGreatDoorGax
import Derived.Test.YtgcmjkimiakibaaGreatDoorGaf
namespace Go.Proofs.YtgcmjkimiakibaaGreatDoor
open Go.RowKit

theorem Tryz.info8 : (Tryz.prog.info? 5).map (fun i => (i.zero, i.size, i.bytes)) = some (some (.int .u8 0), 1, 1) := by kernel_rfl
namespace Tk
open Ru
/-- a character as a byte's number -/
def p8I (c : Int) : Int := min c 128
/-- k of them are done -/
def done8 (l : List Int) (k : Nat) : List Int := (l.take k).map p8I ++ List.replicate (l.length - k) 0
theorem done8_len {l : List Int} {k : Nat} (h : k ≤ l.length) : (done8 l k).length = l.length := by unfold done8; simp; omega
theorem done8_zero (l : List Int) : done8 l 0 = List.replicate l.length 0 := by unfold done8; simp
theorem done8_all (l : List Int) : done8 l l.length = l.map p8I := by unfold done8; simp
theorem done8_next {l : List Int} {k : Nat} (h : k < l.length) : done8 l (k + 1) = (done8 l k).set k (p8I (g l k)) := by
  unfold done8
  rw [take_g h, List.map_append, List.set_append_right _ _ (by simp; omega)]
  have e1 : k - ((l.take k).map p8I).length = 0 := by simp; omega
  obtain ⟨m, hm⟩ : ∃ m, l.length - k = m + 1 := ⟨l.length - k - 1, by omega⟩
  rw [e1, hm, show l.length - (k + 1) = m by omega, List.replicate_succ, List.set_cons_zero, List.append_assoc]
  rfl
/-- the plain text -/
def plainT (l : List Int) : ByteArray := strOfNums (l.map p8I)
theorem plainT_data (l : List Int) : (plainT l).data.toList = l.map p8 := by
  unfold plainT strOfNums
  simp [p8, p8I]
end Tk
/-- a new scanner -/
def NewS (l : List Int) (w : World) (e : Ending) (w' : World) : Prop :=
  ∃ (g : Nat) (A : Option Addr) (cap : Nat), e = .returned (.pointer (some ⟨g, 0, none⟩)) ∧ w.heap.size ≤ g ∧ Sc w' g A cap l (Tk.plainT l) 0 ∧ Below w.heap.size w w'
def NewAt (l : List Int) (w : World) (gx cp : Nat) (v11 : Value) (wr : World) : Prop :=
  ∃ k : Nat, k ≤ l.length ∧ v11 = .int .i64 k ∧ Hid (wr.ownsRow w.heap.size 5 1 (.slice (some ⟨gx, 0, none⟩) l.length cp) l.length (nums .u8 (Tk.done8 l k))) ∧ Hid (Below w.heap.size w wr)
theorem set_nums {k : IntKind} (l : List Int) (j : Nat) (x : Int) : (nums k l).set j (.int k x) = nums k (l.set j x) := by unfold nums; rw [List.map_set]
theorem own_conv {w : World} {B gx cp n : Nat} {l : List Int} (h : w.ownsRow B 5 1 (.slice (some ⟨gx, 0, none⟩) n cp) n (nums .u8 l)) (hn : n = l.length) : (convert 28 9 (.slice (some ⟨gx, 0, none⟩) n cp)).run Tryz.prog w = .ok (.string (strOfNums l)) w := by
  subst hn
  exact conv_bytes cp (Bs.of_own h)

set_option maxHeartbeats 2000000 in
set_option maxRecDepth 100000 in
theorem newScanner_any (l : List Int) (hC : Tk.Chr l) (A : Option Addr) (cap : Nat) (w : World) (hm : l.length ≤ 65536) (hA : Bs w w.heap.size .i32 A l) :
    Calls Tryz.prog 15 #[.slice A l.length cap] w (NewS l w) := by
  obtain ⟨i0, hi, hz0, hz1, hz2⟩ := info_parts Tryz.info8
  have HA := Lib.hid hA
  have HC := Lib.hid hC
  clear hA hC
  go_enter Tryz.func15, Tryz.ntmps15
  go_wp2_with (at_make; refine wpList_make_full _ rfl _ _ 28 rfl w.heap.size 5 i0 (.int .u8 0) 1 Tryz.underlying28 hi hz0 hz1 .i64 .i64 _ _ l.length rfl rfl rfl rfl (by rw [hz2]; omega) (by unfold maxLen; omega) (Nat.le_refl _) ?_; intro w1 hown1 hgrow1)
  have HO1 : Hid (w1.ownsRow w.heap.size 5 1 (.slice (some ⟨w.heap.size, 0, none⟩) l.length l.length) l.length (nums .u8 (Tk.done8 l 0))) := Lib.hid (by
    have e : (madeCells (Value.int .u8 0).cells (l.length * 1)).toList = nums .u8 (Tk.done8 l 0) := by
      rw [Tk.done8_zero, Nat.mul_one]
      unfold nums
      rw [List.map_replicate]
      exact toList_madeCells_one _ _
    rw [← e]; exact hown1)
  have HB1 : Hid (Below w.heap.size w w1) := Lib.hid ((Below.refl _ _).grown hgrow1 (Nat.le_refl _) (by simp))
  clear hown1 hgrow1
  go_wp2_with fail
  go_loopw [11] (fun v11 wr => NewAt l w w.heap.size l.length v11 wr) (fun v11 _ => l.length - (RowKit.intOf v11).toNat)
  case atStart => exact ⟨0, Nat.zero_le _, rfl, HO1, HB1⟩
  case round =>
    obtain ⟨k, hk, rfl, HO, HB⟩ := hrel
    clear HO1 HB1
    by_cases hlt : k < l.length
    · obtain ⟨b, off, rfl, hb, hp⟩ := HA.out (by omega)
      have hcell := (HB.out.cell (p := ⟨b, off + k, none⟩) hb).trans (hp k hlt)
      have hy := HC.out.g hlt
      have hold : ∃ u, wr.cell? ⟨w.heap.size, k, none⟩ = some (.int .u8 u) := ⟨_, (HO.out.cellAt k (by omega)).trans (nums_get (by rw [Tk.done8_len hk]; exact hlt))⟩
      obtain ⟨u, hu⟩ := hold
      have hf := HO.out.frozenAt k
      have HX : Hid ((Tk.done8 l (k + 1)) = (Tk.done8 l k).set k (Tk.p8I (Ru.g l k))) := Lib.hid (Tk.done8_next hlt)
      obtain ⟨y0, y1⟩ := hy
      clear hp
      generalize Ru.g l k = y at *
      go_wp2_with fail
      go_roundw
      case rel => exact ⟨k + 1, by omega, by go_num, Lib.hid (by rw [HX.out, ← set_nums]; exact (HO.out.stored k _).1), Lib.hid (HB.out.setCell (Nat.le_refl _) _)⟩
      case measure => simp [RowKit.intOf]; omega
    · have hk' : k = l.length := by omega
      have HO2 : Hid (wr.ownsRow w.heap.size 5 1 (.slice (some ⟨w.heap.size, 0, none⟩) l.length l.length) l.length (nums .u8 (l.map Tk.p8I))) := Lib.hid (by have h := HO.out; rw [hk', Tk.done8_all] at h; exact h)
      have cv := own_conv HO2.out (by simp)
      rw [show strOfNums (l.map Tk.p8I) = Tk.plainT l from rfl] at cv
      have hsz := HB.out.size
      clear HO HO2
      obtain ⟨pl, hpl⟩ : ∃ pl, pl = Tk.plainT l := ⟨_, rfl⟩
      rw [← hpl] at cv
      have HPL := Lib.hid hpl
      clear hpl
      go_wp2_with fail
      go_ret
      exact ⟨wr.heap.size, A, cap, rfl, hsz, ⟨by rw [← HPL.out]; exact heap_alloc_new wr _, ((HA.out.below HB.out).more hsz).below ((Below.refl _ _).alloc (Nat.le_refl _) _)⟩, HB.out.alloc hsz _⟩
end Go.Proofs.YtgcmjkimiakibaaGreatDoor

/-
  The walk of Scan.
-/
namespace Go.Proofs.YtgcmjkimiakibaaGreatDoor
open Go.RowKit

/-- at the head of Scan's loop -/
def ScnAt (g : Nat) (A : Option Addr) (cap : Nat) (l : List Int) (pl : ByteArray) (w : World) (r : Nat) (v5 : Value) (wr : World) : Prop :=
  ∃ (k : Nat) (ts : List Tk.Tok), k ≤ l.length ∧ l.length - k ≤ r ∧ ts.length ≤ k ∧ Hid (Tk.scan l 0 = ts ++ Tk.scan l k) ∧ Hid (wr.ownsRow (g + 1) 32 3 v5 ts.length (Tk.cells ts)) ∧ Hid (Below w.heap.size w wr) ∧ Sc wr g A cap l pl k ∧ w.heap.size ≤ wr.heap.size

set_option maxHeartbeats 400000 in
theorem scan_long (n : Nat) (A : Option Addr) (cap : Nat) (w : World) (hm : 65536 < n) :
    Calls Tryz.prog 9 #[.slice A n cap] w fun e w' => e = .returned (.tuple #[.slice none 0 0, .int .i64 2]) ∧ w = w' := by
  go_enter Tryz.func9, Tryz.ntmps9
  go_wp2_with fail
  go_ret2
  exact ⟨rfl, rfl⟩

set_option maxHeartbeats 8000000 in
set_option maxRecDepth 100000 in
theorem scan_any (bl : List Int) (hl : Ru.By bl) (A0 : Option Addr) (cap0 : Nat) (w : World) (hm : bl.length ≤ 65000) (ht : (Tk.scan (Ru.rd bl) 0).length < 16384) (hcap : bl.length ≤ cap0) (hT : UTab w.heap.size w) (hA : Bs w w.heap.size .u8 A0 bl) :
    Calls Tryz.prog 9 #[.slice A0 bl.length cap0] w (Toks (Tk.scan (Ru.rd bl) 0) w) := by
  obtain ⟨i0, hi, hz0, hz1, hz2⟩ := info_parts Tryz.infoTok
  have CR := Lib.hid ((read_told bl hl A0 cap0 w (by omega) hcap hT hA).mono fun _ _ h => told h)
  have hC : Tk.Chr (Ru.rd bl) := Tk.rd_chr hl
  have HC := Lib.hid hC
  have hlen := Ru.rd_len' bl
  clear hA hl hT hC
  generalize Ru.rd bl = l at *
  have CN : Hid (∀ (A : Option Addr) (cap : Nat) (w1 : World), Bs w1 w1.heap.size .i32 A l → Calls Tryz.prog 15 #[.slice A l.length cap] w1 (NewS l w1)) := Lib.hid fun A cap w1 h => newScanner_any l HC.out A cap w1 (by omega) h
  have HTN := Lib.hid ht
  clear ht
  go_enter Tryz.func9, Tryz.ntmps9
  go_wp2_with (first | (go_at_call 16; ((with_reducible refine (CR.out).mono ?_); rintro e w1 ⟨A1, c1, rfl, hc1, hB1, b1⟩)) | (go_at_call 15; ((with_reducible refine (CN.out _ _ _ hB1).mono ?_); rintro e w2 ⟨g, A, cap, rfl, hg, S, b2⟩)))
  have HB : Hid (Below w.heap.size w w2) := Lib.hid (below_next b1 b2)
  have hwg : w.heap.size ≤ g := Nat.le_trans b1.size hg
  have hws : w.heap.size ≤ w2.heap.size := Nat.le_trans b1.size b2.size
  clear b1 b2 hg hB1 CR CN
  have hPL := Tk.plainT_data l
  generalize Tk.plainT l = pl at *
  have HPL := Lib.hid hPL
  clear hPL
  go_loopg [5] l.length (fun r v5 wr => ScnAt g A cap l pl w r v5 wr)
  case atStart => exact ⟨0, [], by omega, by omega, by simp, Lib.hid rfl, Lib.hid (World.ownsRow_nil _ _ _ _), HB, S, hws⟩
  case round =>
    clear S HB hws
    obtain ⟨k, ts, hk, hr, hts, HS, HO, HB, S, hws⟩ := hrel
    obtain ⟨A5, c5, hv, hc5⟩ := row_slice HO.out
    subst hv
    have hts2 : ts.length < 16384 := by have := HTN.out; rw [HS.out, List.length_append] at this; omega
    have n16 : ((ts.length : Int) == 16384) = false := Ru.eq_f (by omega)
    have hc3 : ts.length + 1 ≤ maxLen := by unfold maxLen; omega
    have hc4 : (ts.length + 1) * 32 ≤ 140737488355328 := by omega
    have C0 : Hid (∀ w', Sc w' g A cap l pl k → Calls Tryz.prog 17 #[.pointer (some ⟨g, 0, none⟩), .int .i64 0] w' (Stp g A cap l pl k (.int .i32 (Tk.at' l k)) w')) := Lib.hid fun w' h => peek_any 0 0 rfl (by omega) hk (by omega) h
    by_cases hlt : k < l.length
    · have ha := HC.out.g hlt
      have n1 := Ru.ne_t (show ¬ Ru.g l k = -1 by omega)
      by_cases hgap : Ru.whiB (Tk.at' l k) = true ∨ Tk.opn l k = true
      · have hsl := Tk.sp_le l k false hk
        have hsg : k < (Tk.sp l k false).1 := Tk.sp_gt hgap
        have HD : Hid (Tk.scan l 0 = (ts ++ Tk.spTok (Tk.sp l k false).2) ++ Tk.scan l (Tk.sp l k false).1) := Lib.hid (by rw [HS.out, Tk.scan_gap hlt, List.append_assoc])
        have X0 : Hid (∀ w', Sc w' g A cap l pl k → Calls Tryz.prog 18 #[.pointer (some ⟨g, 0, none⟩)] w' (Stp g A cap l pl (Tk.sp l k false).1 (GapV (Tk.sp l k false).2) w')) := Lib.hid fun w' h => next_gap HC.out (by omega) hk hgap h
        rw [Tk.at_in hlt] at C0
        clear HS hgap
        generalize Ru.g l k = y at *
        generalize Tk.sp l k false = s at *
        obtain ⟨j, b⟩ := s
        simp only at hsl hsg HD X0
        cases b
        · go_wp2_with (first | (go_at_call 17; (first | (with_reducible refine (C0.out _ S).mono ?_)); rintro e w1 ⟨rfl, S, m1⟩; have HO := Lib.hid (own_mv HO.out m1 (Nat.lt_succ_self g)); have HB := Lib.hid (HB.out.trans (m1.below hwg hws)); have hws := Nat.le_trans hws m1.size; clear m1) | (go_at_call 18; (first | (with_reducible refine (X0.out _ S).mono ?_)); rintro e w1 ⟨he, S, m1⟩; unfold GapV tokV at he; subst he; have HO := Lib.hid (own_mv HO.out m1 (Nat.lt_succ_self g)); have HB := Lib.hid (HB.out.trans (m1.below hwg hws)); have hws := Nat.le_trans hws m1.size; clear m1))
          go_roundg (l.length - j)
          case measure => omega
          case rel => exact ⟨j, ts, by omega, by omega, by omega, Lib.hid (by rw [HD.out]; simp [Tk.spTok]), Lib.hid (HO.out.alloc _), Lib.hid (HB.out.alloc hws _), S.alloc _, by simp; omega⟩
        · go_wp2_with (first | (go_at_call 17; (first | (with_reducible refine (C0.out _ S).mono ?_)); rintro e w1 ⟨rfl, S, m1⟩; have HO := Lib.hid (own_mv HO.out m1 (Nat.lt_succ_self g)); have HB := Lib.hid (HB.out.trans (m1.below hwg hws)); have hws := Nat.le_trans hws m1.size; clear m1) | (go_at_call 18; (first | (with_reducible refine (X0.out _ S).mono ?_)); rintro e w1 ⟨he, S, m1⟩; unfold GapV tokV at he; subst he; have HO := Lib.hid (own_mv HO.out m1 (Nat.lt_succ_self g)); have HB := Lib.hid (HB.out.trans (m1.below hwg hws)); have hws := Nat.le_trans hws m1.size; clear m1) | (at_builtin; have E1 := (HO.out.alloc (.cells #[.int .i64 (1), .string (⟨#[]⟩), .int .i64 (0)] 32)).alloc (.cells #[.int .i64 (1), .string (⟨#[]⟩), .int .i64 (0)] 32); have E2 : g + 1 ≤ ((w1.alloc (.cells #[.int .i64 (1), .string (⟨#[]⟩), .int .i64 (0)] 32)).alloc (.cells #[.int .i64 (1), .string (⟨#[]⟩), .int .i64 (0)] 32)).heap.size := (by have := S.lt; simp; omega); refine wpList_append_own _ rfl _ _ 22 rfl (g + 1) 32 i0 zTok 3 32 Tryz.underlying22 hi hz0 hz1 hz2 rfl (by decide) _ _ _ rfl E1 ⟨w1.heap.size + 1, 0, none⟩ 1 1 [.int .i64 (1), .string (⟨#[]⟩), .int .i64 (0)] rfl rfl (three_cell _ _ (by simp) _ _ _) (three_ok _ _ _) hc3 hc4 E2 ?_; intro v' w3 hown3 hgrow _; have HO3 := Lib.hid (cells_next (t := (1, ⟨#[]⟩, 0)) hown3); have HG := Lib.hid ((((Below.refl (g + 1) w1).alloc S.lt (.cells #[.int .i64 (1), .string (⟨#[]⟩), .int .i64 (0)] 32)).alloc (by have := S.lt; simp; omega) (.cells #[.int .i64 (1), .string (⟨#[]⟩), .int .i64 (0)] 32)).grown hgrow E2 (fun x hx => (HO.out.lt x hx).1)); have S := S.below HG.out (Nat.lt_succ_self g); have HB := Lib.hid (HB.out.trans (HG.out.mono (Nat.le_succ_of_le hwg))); have hws := Nat.le_trans hws HG.out.size; clear hown3 hgrow E1 E2 HG))
          go_roundg (l.length - j)
          case measure => omega
          case rel => exact ⟨j, ts ++ [(1, ⟨#[]⟩, 0)], by omega, by omega, by simp; omega, Lib.hid (by rw [HD.out]; simp [Tk.spTok]), HO3, HB, S, hws⟩
      · have hw : Ru.whiB (Tk.at' l k) = false := by rw [Bool.eq_false_iff]; exact fun h => hgap (.inl h)
        have ho : Tk.opn l k = false := by rw [Bool.eq_false_iff]; exact fun h => hgap (.inr h)
        have hnx := Tk.nxt_le hlt
        have HD : Hid (Tk.scan l 0 = (ts ++ [Tk.tokOf (Tk.nxt l k)]) ++ Tk.scan l (Tk.nxt l k).2.2.2) := Lib.hid (by rw [HS.out, Tk.scan_tok hlt hw ho, List.append_assoc]; rfl)
        have X0 : Hid (∀ w', Sc w' g A cap l pl k → Calls Tryz.prog 18 #[.pointer (some ⟨g, 0, none⟩)] w' (Stp g A cap l pl (Tk.nxt l k).2.2.2 (NxtV (Tk.nxt l k)) w')) := Lib.hid fun w' h => next_tok HC.out (by omega) hlt HPL.out (by rw [← Tk.at_in hlt]; exact hw) ho h
        rw [Tk.at_in hlt] at C0
        clear HS hgap hw ho
        generalize Ru.g l k = y at *
        generalize Tk.nxt l k = s at *
        obtain ⟨kd, tx, nv, j⟩ := s
        simp only at hnx HD X0
        go_wp2_with (first | (go_at_call 17; (first | (with_reducible refine (C0.out _ S).mono ?_)); rintro e w1 ⟨rfl, S, m1⟩; have HO := Lib.hid (own_mv HO.out m1 (Nat.lt_succ_self g)); have HB := Lib.hid (HB.out.trans (m1.below hwg hws)); have hws := Nat.le_trans hws m1.size; clear m1) | (go_at_call 18; (first | (with_reducible refine (X0.out _ S).mono ?_)); rintro e w1 ⟨he, S, m1⟩; unfold NxtV tokV at he; subst he; have HO := Lib.hid (own_mv HO.out m1 (Nat.lt_succ_self g)); have HB := Lib.hid (HB.out.trans (m1.below hwg hws)); have hws := Nat.le_trans hws m1.size; clear m1) | (at_builtin; have E1 := (HO.out.alloc (.cells #[.int .i64 (kd), .string (tx), .int .i64 (nv)] 32)).alloc (.cells #[.int .i64 (kd), .string (tx), .int .i64 (nv)] 32); have E2 : g + 1 ≤ ((w1.alloc (.cells #[.int .i64 (kd), .string (tx), .int .i64 (nv)] 32)).alloc (.cells #[.int .i64 (kd), .string (tx), .int .i64 (nv)] 32)).heap.size := (by have := S.lt; simp; omega); refine wpList_append_own _ rfl _ _ 22 rfl (g + 1) 32 i0 zTok 3 32 Tryz.underlying22 hi hz0 hz1 hz2 rfl (by decide) _ _ _ rfl E1 ⟨w1.heap.size + 1, 0, none⟩ 1 1 [.int .i64 (kd), .string (tx), .int .i64 (nv)] rfl rfl (three_cell _ _ (by simp) _ _ _) (three_ok _ _ _) hc3 hc4 E2 ?_; intro v' w3 hown3 hgrow _; have HO3 := Lib.hid (cells_next (t := (kd, tx, nv)) hown3); have HG := Lib.hid ((((Below.refl (g + 1) w1).alloc S.lt (.cells #[.int .i64 (kd), .string (tx), .int .i64 (nv)] 32)).alloc (by have := S.lt; simp; omega) (.cells #[.int .i64 (kd), .string (tx), .int .i64 (nv)] 32)).grown hgrow E2 (fun x hx => (HO.out.lt x hx).1)); have S := S.below HG.out (Nat.lt_succ_self g); have HB := Lib.hid (HB.out.trans (HG.out.mono (Nat.le_succ_of_le hwg))); have hws := Nat.le_trans hws HG.out.size; clear hown3 hgrow E1 E2 HG))
        go_roundg (l.length - j)
        case measure => omega
        case rel => exact ⟨j, ts ++ [(kd, tx, nv)], by omega, by omega, by simp; omega, HD, HO3, HB, S, hws⟩
    · have HE : Hid (Tk.scan l 0 = ts) := Lib.hid (by rw [HS.out, Tk.scan_end hlt, List.append_nil])
      rw [Tk.at_out hlt] at C0
      clear HS
      go_wp2_with (go_at_call 17; (first | (with_reducible refine (C0.out _ S).mono ?_)); rintro e w1 ⟨rfl, S, m1⟩; have HO := Lib.hid (own_mv HO.out m1 (Nat.lt_succ_self g)); have HB := Lib.hid (HB.out.trans (m1.below hwg hws)); have hws := Nat.le_trans hws m1.size; clear m1)
      go_ret2
      exact ⟨_, rfl, by rw [HE.out]; exact own_le HO.out (Nat.le_succ_of_le hwg), HB.out⟩
end Go.Proofs.YtgcmjkimiakibaaGreatDoor

/-
  What is scanned of a text that was printed.
-/
namespace Go.Proofs.YtgcmjkimiakibaaGreatDoor
open Go.RowKit

/-- tokens that Scan tells -/
def Scd (ts : List Tk.Tok) (w : World) (e : Ending) (w' : World) : Prop :=
  ∃ (A : Option Addr) (cap : Nat), e = .returned (.tuple #[.slice A ts.length cap, .int .i64 0]) ∧ ts.length ≤ cap ∧ Ts w' w'.heap.size A ts ∧ Below w.heap.size w w'
theorem conv_read (x : ByteArray) (w : World) (hT : UTab w.heap.size w) (hx : x.size ≤ 65000) (ts : List Tk.Tok) (hs : Tk.scan (Ru.rd (Ru.bs x)) 0 = ts) (ht : ts.length < 16384) :
    ∃ (C n : Nat) (w0 : World), (convert 9 28 (.string x)).run Tryz.prog w = .ok (.slice (some ⟨w.heap.size, 0, none⟩) n C) w0 ∧
      Hid (Below w.heap.size w w0) ∧ Hid (Calls Tryz.prog 9 #[.slice (some ⟨w.heap.size, 0, none⟩) n C] w0 (Scd ts w)) := by
  obtain ⟨C, w0, h1, h2, _, h4, h5⟩ := bytes_of x w
  refine ⟨C, x.size, w0, h1, Lib.hid h4, Lib.hid ?_⟩
  subst hs
  have hl := Ru.bs_len x
  have hB : Bs w0 w0.heap.size .u8 (some ⟨w.heap.size, 0, none⟩) (Ru.bs x) := fun h0 => ⟨w.heap.size, 0, rfl, by
    have hc := h2 0 (by omega)
    exact World.block_lt_of_cell? w0 ⟨w.heap.size, 0, none⟩ hc, fun j hj => by rw [Nat.zero_add]; exact h2 j (by omega)⟩
  have h := scan_any (Ru.bs x) (Ru.bs_by x) (some ⟨w.heap.size, 0, none⟩) C w0 (by omega) ht (by omega) (hT.next h4) hB
  rw [hl] at h
  refine h.mono fun e w' hh => ?_
  obtain ⟨A, cap, he, hc, ht, hb⟩ := told3 hh
  exact ⟨A, cap, he, hc, ht, below_next h4 hb⟩
/-- what is printed of what may be, and what is scanned of it -/
theorem print_scan (us : List Tk.Tok) (hF : Pr.Fair us) (hw : Pr.Wf us) (hr : Pr.RightU us) : ∃ X : ByteArray,
    (∀ (A : Option Addr) (cap : Nat) (W : World), us.length ≤ cap → Ts W W.heap.size A us → PTab W.heap.size W → Calls Tryz.prog 10 #[.slice A us.length cap] W (Sg X W)) ∧
    (∀ W, PTab W.heap.size W → ∃ (C n : Nat) (w0 : World), (convert 9 28 (.string X)).run Tryz.prog W = .ok (.slice (some ⟨W.heap.size, 0, none⟩) n C) w0 ∧
      Hid (Below W.heap.size W w0) ∧ Hid (Calls Tryz.prog 9 #[.slice (some ⟨W.heap.size, 0, none⟩) n C] w0 (Scd us W))) := by
  obtain ⟨_, ps, rfl, hp⟩ := (Pr.rightU_iff us).1 hr
  have hl : (ps.map Pr.toTok).length = ps.length := by simp
  have hm := hF.1
  refine ⟨Tk.str (Pr.prL none ps), fun A cap W hc h1 h2 => ?_, fun W hT => ?_⟩
  · rw [hl]
    exact printP_yes ps hF hw hr (Pr.right_pt hp) A cap (by omega) W h1 h2
  · have hsz : (Tk.str (Pr.prL none ps)).size ≤ 65000 := by
      rw [← Ru.bs_len, Pr.str_bs]
      have := Pr.prL_four ps none (Pr.Right.all hp) (fun t ht => by
        obtain ⟨j, hj, rfl⟩ := List.mem_iff_getElem.1 ht
        have := hF.2 j (by omega)
        rw [Pr.tk_map hj, Pr.pt_eq hj] at this
        rw [← Pr.str_bs, Ru.bs_len]
        exact this)
      omega
    exact conv_read _ W hT.u hsz _ (by rw [Pr.str_bs, Pr.read_print hp, Pr.scan_print hp]) (by omega)
end Go.Proofs.YtgcmjkimiakibaaGreatDoor

/-
  The walk of the law PrintBack.
-/
namespace Go.Proofs.YtgcmjkimiakibaaGreatDoor
open Go.RowKit

set_option maxHeartbeats 8000000 in
set_option maxRecDepth 100000 in
theorem back_any (us : List Tk.Tok) (hn : us.length ≤ 9223372036854775807) (hw : Pr.Wf us) (A : Option Addr) (cap : Nat) (hc : us.length ≤ cap) (w : World) (h : Ts w w.heap.size A us) (hT : PTab w.heap.size w) :
    Calls Tryz.prog 3 #[.slice A us.length cap] w (Bo true w) := by
  have CA : Hid (∀ W, Below w.heap.size w W → Calls Tryz.prog 8 #[] W (Bo true W)) := Lib.hid fun W hb => awake_any W (hT.next hb)
  by_cases hF : Pr.Fair us
  · have CF := Lib.hid (few_any us hn true (by simp [hF]) A cap w h)
    have hm := hF.1
    by_cases hR : Pr.RightU us
    · have CR := Lib.hid (rright_any us hF true (by simp [hR]) A cap w h)
      obtain ⟨X, hx1, hx2⟩ := print_scan us hF hw hR
      have CP : Hid (∀ W, Below w.heap.size w W → Calls Tryz.prog 10 #[.slice A us.length cap] W (Sg X W)) := Lib.hid fun W hb => hx1 A cap W hc (h.next hb) (hT.next hb)
      have CX : Hid (∀ W, Below w.heap.size w W → ∃ (C n : Nat) (w0 : World), (convert 9 28 (.string X)).run Tryz.prog W = .ok (.slice (some ⟨W.heap.size, 0, none⟩) n C) w0 ∧
        Hid (Below W.heap.size W w0) ∧ Hid (Calls Tryz.prog 9 #[.slice (some ⟨W.heap.size, 0, none⟩) n C] w0 (Scd us W))) := Lib.hid fun W hb => hx2 W (hT.next hb)
      have CS : Hid (∀ (A2 : Option Addr) (c2 : Nat) (W : World), Below w.heap.size w W → Ts W W.heap.size A2 us → Calls Tryz.prog 11 #[.slice A2 us.length c2, .slice A us.length cap] W (Bo true W)) := Lib.hid fun A2 c2 W hb h2 => same_all us us true (by simp) A2 A c2 cap W (by omega) (by omega) h2 (h.next hb)
      clear hx1 hx2 h hT hw hF hR hn
      go_enter Tryz.func3, Tryz.ntmps3
      go_wp2_with (first | (go_at_call 6; ((with_reducible refine (CF.out).mono ?_); rintro e w1 ⟨rfl, rfl⟩)) | (go_at_call 7; ((with_reducible refine (CR.out).mono ?_); rintro e w2 ⟨rfl, b2⟩; have HB2 := Lib.hid b2; have C2 := Lib.hid (CP.out _ HB2.out); clear b2 CR)) | (go_at_call 10; ((with_reducible refine (C2.out).mono ?_); rintro e w3 ⟨rfl, b3⟩; have HB3 := Lib.hid (below_next HB2.out b3); obtain ⟨C9, n9, w4, hcv, hb4, HSC⟩ := CX.out w3 HB3.out; clear b3 C2)) | (go_at_call 9; ((with_reducible refine (HSC.out).mono ?_); rintro e w5 ⟨A5, c5, rfl, hc5, T5, b5⟩; have HB5 := Lib.hid (below_next HB3.out b5); have C5 := Lib.hid (CS.out A5 c5 w5 HB5.out T5); clear b5 T5)) | (go_at_call 11; ((with_reducible refine (C5.out).mono ?_); rintro e w6 ⟨rfl, b6⟩; have HB6 := Lib.hid (below_next HB5.out b6); have C6 := Lib.hid (CA.out _ HB6.out); clear b6)) | (go_at_call 8; ((with_reducible refine (C6.out).mono ?_); rintro e w7 ⟨rfl, b7⟩; have HB7 := Lib.hid (below_next HB6.out b7); clear b7)))
      go_ret
      exact ⟨rfl, HB7.out⟩
    · have CR := Lib.hid (rright_any us hF false (by simp [hR]) A cap w h)
      clear hR hF h hT hw
      go_enter Tryz.func3, Tryz.ntmps3
      go_wp2_with (first | (go_at_call 6; ((with_reducible refine (CF.out).mono ?_); rintro e w1 ⟨rfl, rfl⟩)) | (go_at_call 7; ((with_reducible refine (CR.out).mono ?_); rintro e w2 ⟨rfl, b2⟩; have HB2 := Lib.hid b2; have C6 := Lib.hid (CA.out _ HB2.out); clear b2 CR)) | (go_at_call 8; ((with_reducible refine (C6.out).mono ?_); rintro e w7 ⟨rfl, b7⟩; have HB7 := Lib.hid (below_next HB2.out b7); clear b7)))
      go_ret
      exact ⟨rfl, HB7.out⟩
  · have CF := Lib.hid (few_any us hn false (by simp [hF]) A cap w h)
    have C6 := Lib.hid (CA.out _ (Below.refl _ _))
    clear hF h hT hw
    go_enter Tryz.func3, Tryz.ntmps3
    go_wp2_with (first | (go_at_call 6; ((with_reducible refine (CF.out).mono ?_); rintro e w1 ⟨rfl, rfl⟩)) | (go_at_call 8; ((with_reducible refine (C6.out).mono ?_); rintro e w7 ⟨rfl, b7⟩; have HB7 := Lib.hid b7; clear b7)))
    go_ret
    exact ⟨rfl, HB7.out⟩
end Go.Proofs.YtgcmjkimiakibaaGreatDoor
