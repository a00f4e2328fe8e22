/-
  Words for slices of tokens that are read; the walk of the laws' Same.
-/
import Derived.Test.YtppgklmliklkkaaDoorGu0
import Derived.Laws.StructEq
import Derived.Deep.QuietTactic
import Derived.BigQuiet
import Derived.Test.YtppgklmliklkkaaDoorGn
import Derived.Test.YtppgklmliklkkaaDoorGt
import Derived.Lib.SlBytesConst
namespace Go.Proofs.YtppgklmliklkkaaDoor
open Go.RowKit

namespace Tk
def tk (ts : List Tok) (j : Nat) : Tok := ts.getD j (0, ⟨#[]⟩, 0)
theorem tk_eq {ts : List Tok} {j : Nat} (h : j < ts.length) : tk ts j = ts[j] := by
  unfold tk; rw [List.getD_eq_getElem?_getD, List.getElem?_eq_getElem h]; rfl
theorem cells_at : ∀ (ts : List Tok) (j : Nat), j < ts.length → (cells ts)[j * 3]? = some (.int .i64 (tk ts j).1) ∧ (cells ts)[j * 3 + 1]? = some (.string (tk ts j).2.1) ∧ (cells ts)[j * 3 + 2]? = some (.int .i64 (tk ts j).2.2)
  | [], j, h => by simp at h
  | t :: ts, 0, _ => ⟨rfl, rfl, rfl⟩
  | t :: ts, j + 1, h => by
    have ih := cells_at ts j (by simp at h; omega)
    have e : cells (t :: ts) = [.int .i64 t.1, .string t.2.1, .int .i64 t.2.2] ++ cells ts := rfl
    have e2 : tk (t :: ts) (j + 1) = tk ts j := rfl
    rw [e, e2]
    refine ⟨?_, ?_, ?_⟩
    · rw [List.getElem?_append_right (by simp; omega)]
      rw [show (j + 1) * 3 - [Value.int .i64 t.1, .string t.2.1, .int .i64 t.2.2].length = j * 3 by simp; omega]; exact ih.1
    · rw [List.getElem?_append_right (by simp; omega)]
      rw [show (j + 1) * 3 + 1 - [Value.int .i64 t.1, .string t.2.1, .int .i64 t.2.2].length = j * 3 + 1 by simp; omega]; exact ih.2.1
    · rw [List.getElem?_append_right (by simp; omega)]
      rw [show (j + 1) * 3 + 2 - [Value.int .i64 t.1, .string t.2.1, .int .i64 t.2.2].length = j * 3 + 2 by simp; omega]; exact ih.2.2
end Tk
/-- the slice at A of ts's length reads as ts, below block B -/
def Ts (w : World) (B : Nat) (A : Option Addr) (ts : List Tk.Tok) : Prop :=
  0 < ts.length → ∃ b off, A = some ⟨b, off, none⟩ ∧ b < B ∧ ∀ j, j < ts.length → w.cell? ⟨b, off + j * 3, none⟩ = some (.int .i64 (Tk.tk ts j).1) ∧ w.cell? ⟨b, off + j * 3 + 1, none⟩ = some (.string (Tk.tk ts j).2.1) ∧ w.cell? ⟨b, off + j * 3 + 2, none⟩ = some (.int .i64 (Tk.tk ts j).2.2)
section
variable {w w' : World} {B B' : Nat} {A : Option Addr} {ts : List Tk.Tok}
theorem Ts.keep (h : Ts w B A ts) (hk : ∀ p : Addr, p.block < B → w'.cell? p = w.cell? p) : Ts w' B A ts := fun hl => by
  obtain ⟨b, off, e, hb, hc⟩ := h hl
  refine ⟨b, off, e, hb, fun j hj => ?_⟩
  obtain ⟨h0, h1, h2⟩ := hc j hj
  exact ⟨(hk ⟨b, _, none⟩ hb).trans h0, (hk ⟨b, _, none⟩ hb).trans h1, (hk ⟨b, _, none⟩ hb).trans h2⟩
theorem Ts.more (h : Ts w B A ts) (hB : B ≤ B') : Ts w B' A ts := fun hl => by
  obtain ⟨b, off, e, hb, hc⟩ := h hl
  exact ⟨b, off, e, by omega, hc⟩
theorem Ts.below (h : Ts w B A ts) (hb : Below B w w') : Ts w' B A ts := h.keep fun _ hp => hb.cell hp
theorem Ts.next (h : Ts w w.heap.size A ts) (hb : Below w.heap.size w w') : Ts w' w'.heap.size A ts := (h.below hb).more hb.size
theorem Ts.of_own {base : Nat} {e : TypeId} {c : Nat} (h : w.ownsRow base e 3 (.slice A ts.length c) ts.length (Tk.cells ts)) : Ts w w.heap.size A ts := fun hl => by
  obtain ⟨x, cap, hv, _, hlt⟩ := h.form hl
  have hA : A = some ⟨x, 0, none⟩ := by injection hv
  subst hA
  refine ⟨x, 0, rfl, hlt, fun j hj => ?_⟩
  obtain ⟨h0, h1, h2⟩ := Tk.cells_at ts j hj
  have c := h.cells (g := x) rfl
  have g0 := c _ _ h0
  have g1 := c _ _ h1
  have g2 := c _ _ h2
  rw [Addr.add_lit] at g0 g1 g2
  exact ⟨g0, g1, g2⟩
end
/-- what Scan tells, as a slice that reads -/
def Told3 (ts : List Tk.Tok) (w : World) (e : Ending) (w' : World) : Prop :=
  ∃ (A : Option Addr) (cap : Nat), e = .returned (.tuple #[.slice A ts.length cap, .int .i64 0]) ∧ ts.length ≤ cap ∧ Ts w' w'.heap.size A ts ∧ Below w.heap.size w w'
theorem told3 {ts : List Tk.Tok} {w : World} {e : Ending} {w' : World} (h : Toks ts w e w') : Told3 ts w e w' := by
  obtain ⟨v, he, ho, hb⟩ := h
  obtain ⟨A, cap, rfl, hc⟩ := row_slice ho
  exact ⟨A, cap, he, hc, Ts.of_own ho, hb⟩

set_option maxHeartbeats 1000000 in
set_option maxRecDepth 100000 in
theorem same_any (ts : List Tk.Tok) (A C : Option Addr) (ca cb : Nat) (w : World) (hm : ts.length ≤ 65536) (hA : Ts w w.heap.size A ts) (hC : Ts w w.heap.size C ts) :
    Calls Tryd.prog 10 #[.slice A ts.length ca, .slice C ts.length cb] w (Yes w) := by
  have HA := Lib.hid hA
  have HC := Lib.hid hC
  clear hA hC
  go_enter Tryd.func10, Tryd.ntmps10
  go_wp2_with fail
  go_loopw [13] (fun v13 wr => ∃ k : Nat, k ≤ ts.length ∧ v13 = .int .i64 k ∧ Below w.heap.size w wr) (fun v13 _ => ts.length - (RowKit.intOf v13).toNat)
  case atStart => exact ⟨0, Nat.zero_le _, rfl, Below.refl _ _⟩
  case round =>
    obtain ⟨k, hk, rfl, hb⟩ := hrel
    have HB := Lib.hid hb
    clear hb
    by_cases hlt : k < ts.length
    · obtain ⟨b, off, rfl, _, hp⟩ := HA.out.next HB.out (by omega)
      obtain ⟨b2, off2, rfl, _, hp2⟩ := HC.out.next HB.out (by omega)
      obtain ⟨p0, p1, p2⟩ := hp k hlt
      obtain ⟨q0, q1, q2⟩ := hp2 k hlt
      clear hp hp2
      generalize Tk.tk ts k = t at *
      obtain ⟨kd, tx, nv⟩ := t
      simp only at p0 p1 p2 q0 q1 q2
      go_wp2_with fail
      go_quiet (fail)
      go_wp2_with fail
      go_roundw
      case rel => exact ⟨k + 1, by omega, by go_num, below_drewN HB.out _⟩
      case measure => simp [RowKit.intOf]; omega
    · go_wp2_with fail
      go_ret
      exact ⟨rfl, HB.out⟩
end Go.Proofs.YtppgklmliklkkaaDoor

/-
  Plain: the tokens of what the laws' awake asks. No run of the program in this text.
-/
namespace Go.Proofs.YtppgklmliklkkaaDoor
namespace Tk
open Ru
def awL : List Int := [97, 58, 49, 46, 53, 101, 109, 47, 42, 42, 47, 98]
theorem awL_by : By awL := by intro c hc; revert c; decide
theorem aw_rd : rd awL = awL := by decide +kernel
theorem aw0 : nxt awL 0 = (2, ⟨#[97]⟩, 0, 1) := by decide +kernel
theorem aw1 : nxt awL 1 = (14, ⟨#[]⟩, 0, 2) := by decide +kernel
theorem aw2 : nxt awL 2 = (10, ⟨#[101, 109]⟩, 1500, 7) := by decide +kernel
theorem aw3 : sp awL 7 false = (11, false) := by decide +kernel
theorem aw4 : nxt awL 11 = (2, ⟨#[98]⟩, 0, 12) := by decide +kernel
theorem aw_scan : scan (rd awL) 0 = [(2, ⟨#[97]⟩, 0), (14, ⟨#[]⟩, 0), (10, ⟨#[101, 109]⟩, 1500), (2, ⟨#[98]⟩, 0)] := by
  rw [aw_rd]
  rw [scan_tok (k := 0) (by decide) (by decide) (by decide), aw0]
  rw [scan_tok (k := 1) (by decide) (by decide) (by decide), aw1]
  rw [scan_tok (k := 2) (by decide) (by decide) (by decide), aw2]
  rw [scan_gap (k := 7) (by decide), aw3]
  rw [scan_tok (k := 11) (by decide) (by decide) (by decide), aw4]
  rw [scan_end (k := 12) (by decide)]
  rfl
end Tk
end Go.Proofs.YtppgklmliklkkaaDoor

/-
  The walk of the laws' awake.
-/
namespace Go.Proofs.YtppgklmliklkkaaDoor
open Go.RowKit

theorem scan_told (bl : List Int) (hl : Ru.By bl) (A0 : Option Addr) (cap0 : Nat) (w : World) (hm : bl.length ≤ 4000) (hcap : bl.length ≤ cap0) (hT : UTab w.heap.size w) (hA : Bs w w.heap.size .u8 A0 bl) :
    Calls Tryd.prog 9 #[.slice A0 bl.length cap0] w (Told3 (Tk.scan (Ru.rd bl) 0) w) := (scan_any bl hl A0 cap0 w hm hcap hT hA).mono fun _ _ h => told3 h

abbrev awCells : Obj := .cells #[.int .u8 97, .int .u8 58, .int .u8 49, .int .u8 46, .int .u8 53, .int .u8 101, .int .u8 109, .int .u8 47, .int .u8 42, .int .u8 42, .int .u8 47, .int .u8 98] 5 (12, 13)
theorem aw_bs (w : World) : Bs (w.alloc awCells) (w.alloc awCells).heap.size .u8 (some ⟨w.heap.size, 0, none⟩) Tk.awL := fun _ =>
  ⟨w.heap.size, 0, rfl, by simp, fun j hj => by
    have hj2 : j < 12 := hj
    rw [Nat.zero_add, World.cell?_alloc_mark]
    rcases (show j = 0 ∨ j = 1 ∨ j = 2 ∨ j = 3 ∨ j = 4 ∨ j = 5 ∨ j = 6 ∨ j = 7 ∨ j = 8 ∨ j = 9 ∨ j = 10 ∨ j = 11 by omega) with rfl | rfl | rfl | rfl | rfl | rfl | rfl | rfl | rfl | rfl | rfl | rfl <;> rfl⟩

set_option maxHeartbeats 2000000 in
set_option maxRecDepth 100000 in
theorem awake_any (w : World) (hT : UTab w.heap.size w) : Calls Tryd.prog 8 #[] w (Yes w) := by
  have hb0 : Below w.heap.size w (w.alloc awCells) := (Below.refl _ _).alloc (Nat.le_refl _) _
  have CS : Hid (Calls Tryd.prog 9 #[.slice (some ⟨w.heap.size, 0, none⟩) 12 12] (w.alloc awCells) (Told3 [(2, ⟨#[97]⟩, 0), (14, ⟨#[]⟩, 0), (10, ⟨#[101, 109]⟩, 1500), (2, ⟨#[98]⟩, 0)] (w.alloc awCells))) := Lib.hid (by
    have h := scan_told Tk.awL Tk.awL_by (some ⟨w.heap.size, 0, none⟩) 12 (w.alloc awCells) (by decide) (by decide) (hT.next hb0) (aw_bs w)
    rw [Tk.aw_scan] at h
    exact h)
  have HB0 := Lib.hid hb0
  have kc := fun (W : World) (C : Array Value) (n c : Nat) => Lib.run_convert_bytes_const (P := Tryd.prog) W 22 5 C n c Tryd.underlying22 Tryd.underlying5
  clear hT hb0
  go_enter Tryd.func8, Tryd.ntmps8
  go_wp2_with (go_at_call 9; ((with_reducible refine (CS.out).mono ?_); rintro e w1 ⟨A, cap, rfl, hc, hTs, b1⟩; obtain ⟨b, off, rfl, hb, hp⟩ := hTs (by decide); obtain ⟨p0, p1, p2⟩ : w1.cell? ⟨b, off, none⟩ = some (.int .i64 2) ∧ w1.cell? ⟨b, off + 1, none⟩ = some (.string ⟨#[97]⟩) ∧ w1.cell? ⟨b, off + 2, none⟩ = some (.int .i64 0) := hp 0 (by decide); obtain ⟨q0, q1, q2⟩ : w1.cell? ⟨b, off + 6, none⟩ = some (.int .i64 10) ∧ w1.cell? ⟨b, off + 6 + 1, none⟩ = some (.string ⟨#[101, 109]⟩) ∧ w1.cell? ⟨b, off + 6 + 2, none⟩ = some (.int .i64 1500) := hp 2 (by decide); obtain ⟨r0, r1, r2⟩ : w1.cell? ⟨b, off + 9, none⟩ = some (.int .i64 2) ∧ w1.cell? ⟨b, off + 9 + 1, none⟩ = some (.string ⟨#[98]⟩) ∧ w1.cell? ⟨b, off + 9 + 2, none⟩ = some (.int .i64 0) := hp 3 (by decide); clear hp))
  go_ret
  exact ⟨rfl, below_next HB0.out b1⟩
end Go.Proofs.YtppgklmliklkkaaDoor
