/-
  How slices of numbers come in and go out; the last step of a row whose call makes memory; the library's tables out of the row.
-/
import Derived.Test.YtgcmjkimiakibaaGreatDoorGag
import Derived.ProofKit
import Derived.OpenShut
import Derived.ShutString
import Derived.ChangeSame
import Derived.Lib.LaidU8T
import Derived.Test.YtgcmjkimiakibaaGreatDoorGap
import Derived.Test.YtgcmjkimiakibaaGreatDoorGae
import Derived.Test.YtgcmjkimiakibaaGreatDoorGal
import Derived.Laws.StructEq
import Derived.Deep.QuietTactic
import Derived.BigQuiet
namespace Go.Proofs.YtgcmjkimiakibaaGreatDoor
open Go.Lib
open Go.ChangeShapes Go.WideShapes Go.ChangeAt Go.RowKit Go.WideMaps Go.WideElems

section
variable {H : Type} {enc : TypeId × Value → H} {P : Program}
/-- a slice of numbers that came in -/
theorem open_nums {t e : TypeId} {k : IntKind} {W : World} {base : Nat} {v : Value} {d : DataW H} {p : List MemPlace} (ht : P.underlying t = some (.slice e)) (he : P.underlying e = some (.int k)) (hc : P.cellsOf e = 1)
    (hval : Value.okWide P W .any base t v) (h : DataW.Trod enc P W 0 (fun _ => true) true t v d p) :
    ∃ (A : Option Addr) (cap : Nat) (l : List Int), v = .slice A l.length cap ∧ l.length ≤ cap ∧ Bs W W.heap.size k A l ∧ (∀ x ∈ l, (Lit.int k x).wf = true) ∧
      ∀ W', Below W.heap.size W W' → ∀ sp : Nat → Bool, (∀ x ∈ p, sp x.block = true) → DataW.Trod enc P W' 0 sp true t v d p := by
  obtain ⟨a1, len, cap, rfl⟩ := okWide_slice ht hval
  obtain ⟨fuel, hf⟩ := h
  rcases open_ints ht he hc hf with ⟨hcs, hx⟩ | ⟨a, len', cap', zs, hcs, _, hl, hm, hz, hx, hcell, hwz⟩
  · simp [Value.cells] at hcs
    obtain ⟨rfl, rfl, rfl⟩ := hcs
    refine ⟨none, 0, [], rfl, Nat.le_refl _, Bs.nil, (fun x hx => by cases hx), fun W' _ sp _ => ?_⟩
    simp only [Prod.mk.injEq] at hx
    obtain ⟨rfl, rfl⟩ := hx
    exact shut_slice_nil ht
  · simp [Value.cells] at hcs
    obtain ⟨rfl, rfl, rfl⟩ := hcs
    simp only [Prod.mk.injEq] at hx
    obtain ⟨rfl, rfl⟩ := hx
    simp only [if_true] at hz
    have hlen : (zs.take len).length = len := by rw [List.length_take]; omega
    have hblk : 0 < zs.length → a.block < W.heap.size ∧ a.spot = none := fun h => by
      have h0 := hcell 0 h
      exact ⟨by simpa [Addr.add] using World.block_lt_of_cell? W _ h0, by simpa [Addr.add] using World.cell?_spot h0⟩
    refine ⟨some a, cap, zs.take len, by rw [hlen], by rw [hlen]; omega, fun hl0 => ?_, fun x hx => hwz x (List.mem_of_mem_take hx), fun W' hb sp hsp => ?_⟩
    · obtain ⟨b, off, spot⟩ := a
      have hh := hblk (by omega)
      have hs : spot = none := hh.2
      subst hs
      refine ⟨b, off, rfl, hh.1, fun j hj => ?_⟩
      rw [hlen] at hj
      have := hcell j (by omega)
      rw [Addr.add_lit] at this
      rw [this]
      unfold Ru.g
      rw [List.getD_eq_getElem?_getD, List.getD_eq_getElem?_getD, List.getElem?_take, if_pos hj]
    · by_cases hz0 : zs.length = 0
      · have hc0 : cap = 0 := by omega
        have hl0 : len = 0 := by omega
        subst hc0
        subst hl0
        have t0 := shut_ints (enc := enc) (P := P) (w := W') (base := 0) (spare := sp) (held := true) (a := a) (len := 0) (cap := 0) (zs := zs) 0 ht he hc (Nat.zero_le _) (Nat.le_refl _) hm (by simp [hz0]) (fun i hi => by omega) hwz
        exact ⟨2, by simpa [Value.cells] using t0⟩
      · have hspb : sp a.block = true := hsp (.cell a.block a.off) (MemPlace.mem_row.2 ⟨0, by omega, by simp⟩)
        have hcell' : ∀ i, i < zs.length → W'.cell? (a.add i) = some (.int k (zs.getD i 0)) := fun i hi => by
          rw [hb.cell (by rw [block_add]; exact (hblk (by omega)).1)]
          exact hcell i hi
        have t0 := shut_ints (enc := enc) (P := P) (w := W') (base := 0) (spare := sp) (held := true) (a := a) (len := len) (cap := cap) (zs := zs) 0 ht he hc (Nat.zero_le _) hl hm (by simp [hspb, hz]) hcell' hwz
        exact ⟨2, by simpa [Value.cells] using t0⟩

theorem post_of_below {f : Func} {s : ChangeSpec} {apart fresh handsOn : Bool} {W W' : World} {args : Array Value} {v : Value} {ds gs : List (DataW H)} {before pa pv : List MemPlace}
    (hW : DataW.Whole enc P f.params.toList s.vars apart W args.toList ds gs before)
    (hres : ∀ (b : Nat) (sp : Nat → Bool) (hd : Bool), DataW.TrodAll enc P W' b sp hd f.resultTypes.toList (v.resultList f.resultTypes.size) (s.fn H (ds ++ gs)).results [])
    (hargs : ∀ sp : Nat → Bool, (∀ p ∈ before, sp p.block = true) → DataW.TrodAll enc P W' 0 sp true f.params.toList args.toList (s.fn H (ds ++ gs)).args pa)
    (hvars : ∀ sp : Nat → Bool, (∀ p ∈ before, sp p.block = true) → DataW.TrodVars enc P W' sp s.vars (s.fn H (ds ++ gs)).vars pv)
    (hb : Below W.heap.size W W') : s.post enc P f apart fresh handsOn false W args v W' := by
  have hlt : ∀ p ∈ before, p.block < W.heap.size := fun p hp => hW.lt p hp
  have hold : ∀ p ∈ before, (fun b => decide (b < W.heap.size)) p.block = true := fun p hp => by simpa using hlt p hp
  exact ⟨ds, gs, before, [], pa, pv, hW, hres _ _ _, hargs _ hold, hvars _ hold, hb.frame _, fun h => by cases h⟩
end

theorem by_wf {l : List Int} (h : ∀ x ∈ l, (Lit.int .u8 x).wf = true) : Ru.By l := fun c hc => by
  have : 0 ≤ c ∧ c ≤ 255 := by simpa [Lit.wf, IntKind.min, IntKind.max, IntKind.signed, IntKind.bits] using h c hc
  omega
theorem range_wf {l : List Int} (h : ∀ x ∈ l, (Lit.int .i32 x).wf = true) : ∀ c ∈ l, -2147483648 ≤ c ∧ c ≤ 2147483647 := fun c hc => by
  simpa [Lit.wf, IntKind.min, IntKind.max, IntKind.signed, IntKind.bits] using h c hc
theorem rune_wf {c : Int} (h : (Lit.int .i32 c).wf = true) : -2147483648 ≤ c ∧ c ≤ 2147483647 := by
  simpa [Lit.wf, IntKind.min, IntKind.max, IntKind.signed, IntKind.bits] using h

/-- the library's tables, out of the row -/
def tabs_ren : Go.Shelf.Ren := ⟨fun n => n, fun | 5 => 5 | 119 => 121 | 138 => 123 | 139 => 124 | n => n, fun | 3 => 0 | 4 => 1 | n => n⟩
theorem tabs_of {W : World} (h3 : VarReads Tryz.prog W "unicode/utf8.first" firstData) (h4 : VarReads Tryz.prog W "unicode/utf8.acceptRanges" acceptData) : UTab W.heap.size W :=
  UTab.of (utf8Tabs_of_readsT (P := Tryz.prog) (ρ := tabs_ren) ⟨Tryz.underlying5, Tryz.underlying121, Tryz.underlying123, Tryz.underlying124⟩
    ⟨by kernel_rfl, by kernel_rfl, by kernel_rfl, by kernel_rfl, by kernel_rfl, by kernel_rfl, by kernel_rfl⟩ h3 h4)
theorem first_is : Rows.laid_unicode_utf8_first = firstData := by kernel_rfl
theorem accept_is : Rows.laid_unicode_utf8_acceptRanges (H := Unit) = acceptData := by kernel_rfl
theorem tab_of_laid {W : World} (hL : laidMet Tryz.prog [("unicode/utf8.acceptRanges", Rows.laid_unicode_utf8_acceptRanges), ("unicode/utf8.first", Rows.laid_unicode_utf8_first)] W) : UTab W.heap.size W := by
  have h4 := Lib.laidMet.reads hL (.head _)
  have h3 := Lib.laidMet.reads hL (.tail _ (.head _))
  rw [first_is] at h3
  rw [accept_is] at h4
  exact tabs_of h3 h4
end Go.Proofs.YtgcmjkimiakibaaGreatDoor

/-
  The walks of print's Token.
-/
namespace Go.Proofs.YtgcmjkimiakibaaGreatDoor
open Go.RowKit

theorem three_cells {w : World} {x y z : Value} {E : TypeId} : (w.alloc (.cells #[x, y, z] E)).cell? ⟨w.heap.size, 0, none⟩ = some x ∧ (w.alloc (.cells #[x, y, z] E)).cell? ⟨w.heap.size, 1, none⟩ = some y ∧ (w.alloc (.cells #[x, y, z] E)).cell? ⟨w.heap.size, 2, none⟩ = some z := by
  refine ⟨?_, ?_, ?_⟩ <;> (rw [World.cell?_alloc_mark]; rfl)
set_option maxHeartbeats 2000000 in
set_option maxRecDepth 100000 in
theorem token_no (kd n : Int) (t : ByteArray) (hk : I64 kd) (hm : t.size ≤ 9223372036854775807) (hno : ¬ Pr.OneU (kd, t, n)) (w : World) (hT : PTab w.heap.size w) :
    Calls Tryz.prog 13 #[tokV kd t n] w (Sg ⟨#[]⟩ w) := by
  obtain ⟨W0, hW⟩ : ∃ W0, W0 = w.alloc (.cells #[.int .i64 kd, .string t, .int .i64 n] 32) := ⟨_, rfl⟩
  have hb0 : Below w.heap.size w W0 := by rw [hW]; exact (Below.refl _ _).alloc (Nat.le_refl _) _
  have hs0 : w.heap.size < W0.heap.size := by rw [hW]; simp
  have k0 : W0.heap[w.heap.size]? = some (.cells #[.int .i64 kd, .string t, .int .i64 n] 32 (0, 0)) := by rw [hW]; exact heap_alloc_new w _
  have HT := Lib.hid (hT.next hb0)
  have CK := Lib.hid (kinds_any W0)
  have CF : Hid (∀ c w1, Below W0.heap.size W0 w1 → Calls Tryz.prog 29 #[kindAt c kd, tokV kd t n] w1 (Bo false w1)) := Lib.hid fun c w1 h1 => fits_at c kd n t false (by simp; exact hno) hm w1 (HT.out.next h1).u
  have HB0 := Lib.hid hb0
  have HK0 := Lib.hid k0
  unfold tokV at CF ⊢
  clear hT hno hb0 k0
  go_enter Tryz.func13, Tryz.ntmps13
  go_upto_region 1 with fail
  rw [← hW]
  clear hW
  go_wp2_with (first | (go_at_call 19; ((with_reducible refine (CK.out).mono ?_); rintro e w1 ⟨M, c, rfl, K1, hM, hc, b1⟩; obtain ⟨q0, q1, q2⟩ := tok3_cells (below_block b1 HK0.out); have hlk := kinds_look K1 kd hk; have C2 := Lib.hid (CF.out c w1 b1); generalize kindAt c kd = kv at *)) | (go_at_call 29; ((with_reducible refine (C2.out).mono ?_); rintro e w2 ⟨rfl, b2⟩)))
  go_ret
  exact ⟨rfl, below_next HB0.out (below_next b1 b2)⟩
set_option maxHeartbeats 2000000 in
set_option maxRecDepth 100000 in
theorem token_yes (p : Pr.PT) (ho : Pr.One p) (hk : I64 p.1) (hm : (Tk.str p.2.1).size ≤ 10000) (w : World) (hT : PTab w.heap.size w) :
    Calls Tryz.prog 13 #[tokV p.1 (Tk.str p.2.1) p.2.2] w (Sg (Tk.str (Pr.tokC p)) w) := by
  have hone : Pr.OneU (p.1, Tk.str p.2.1, p.2.2) := ⟨p, rfl, ho⟩
  obtain ⟨W0, hW⟩ : ∃ W0, W0 = w.alloc (.cells #[.int .i64 p.1, .string (Tk.str p.2.1), .int .i64 p.2.2] 32) := ⟨_, rfl⟩
  have hb0 : Below w.heap.size w W0 := by rw [hW]; exact (Below.refl _ _).alloc (Nat.le_refl _) _
  have k0 : W0.heap[w.heap.size]? = some (.cells #[.int .i64 p.1, .string (Tk.str p.2.1), .int .i64 p.2.2] 32 (0, 0)) := by rw [hW]; exact heap_alloc_new w _
  have HT := Lib.hid (hT.next hb0)
  have CK := Lib.hid (kinds_any W0)
  have CF : Hid (∀ c w1, Below W0.heap.size W0 w1 → Calls Tryz.prog 29 #[kindAt c p.1, tokV p.1 (Tk.str p.2.1) p.2.2] w1 (Bo true w1)) := Lib.hid fun c w1 h1 => fits_at c p.1 p.2.2 (Tk.str p.2.1) true (by simp; exact hone) (by omega) w1 (HT.out.next h1).u
  have CW : Hid (∀ c b w1, Bu w1 b [] → c ≠ b → w1.heap[c]? = some (.cells #[fNumber] 34 (0, 0)) → PTab b w1 → Calls Tryz.prog 23 #[kindAt c p.1, .pointer (some ⟨b, 0, none⟩), tokV p.1 (Tk.str p.2.1) p.2.2] w1 (Wrote b (Ru.wr (Pr.tokC p)) w1)) := Lib.hid fun c b w1 h1 h2 h3 h4 => write_at c p ho b [] w1 h1 h2 h3 h4 (by simp) hm
  have CS := Lib.hid (fun b w (h : Bu w b (Ru.wr (Pr.tokC p))) => string_any b (Pr.tokC p) w h)
  have HB0 := Lib.hid hb0
  have HK0 := Lib.hid k0
  unfold tokV at CF CW ⊢
  generalize Tk.str (Pr.tokC p) = out at *
  generalize Ru.wr (Pr.tokC p) = outb at *
  obtain ⟨kd, cs, n⟩ := p
  simp only at hk hm CF CW HK0 hW ⊢
  generalize Tk.str cs = t at *
  clear hT hone hb0 k0 ho
  go_enter Tryz.func13, Tryz.ntmps13
  go_upto_region 1 with fail
  rw [← hW]
  clear hW
  go_wp2_with (first | (go_at_call 19; ((with_reducible refine (CK.out).mono ?_); rintro e w1 ⟨M, c, rfl, K1, hM, hc, b1⟩; have HK1 := Lib.hid (below_block b1 HK0.out); obtain ⟨q0, q1, q2⟩ := tok3_cells HK1.out; have hlk := kinds_look K1 kd hk; have C2 := Lib.hid (CF.out c w1 b1); have CW2 := Lib.hid (CW.out c); have HKK := Lib.hid K1)) | (go_at_call 29; ((with_reducible refine (C2.out).mono ?_); rintro e w2 ⟨rfl, b2⟩; have hM2 := Nat.lt_of_lt_of_le hM b2.size; have hc2 := Nat.lt_of_lt_of_le hc b2.size; have HK2 := Lib.hid (HKK.out.below b2 hM hc); have hb3 := Lib.hid ((Below.refl w2.heap.size w2).alloc (Nat.le_refl _) (.cells #[.pointer none, .slice none 0 0] 52)); have HK3 := Lib.hid (HK2.out.below hb3.out hM2 hc2); have hlk3 := kinds_look HK3.out kd hk; obtain ⟨r0, r1, r2⟩ := tok3_cells (below_block hb3.out (below_block b2 HK1.out)); have C3 := Lib.hid (CW2.out w2.heap.size _ (Bu.new w2) (by omega) HK3.out.n (((HT.out.next b1).next b2).below hb3.out)))) | (go_at_call 23; ((with_reducible refine (C3.out).mono ?_); rintro e w4 ⟨rfl, U4, b4⟩; have C5 := Lib.hid (CS.out _ _ U4.bu))) | (go_at_call 24; ((with_reducible refine (C5.out).mono ?_); rintro e w5 ⟨rfl, b5⟩)))
  go_ret
  exact ⟨rfl, below_next HB0.out (below_next b1 (below_next b2 (hb3.out.trans (b4.1.trans b5.1))))⟩
end Go.Proofs.YtgcmjkimiakibaaGreatDoor

/-
  Words for tokens in memory: rows of tokens; what Scan tells.
-/
namespace Go.Proofs.YtgcmjkimiakibaaGreatDoor
open Go.RowKit

abbrev zTok : Value := .agg #[.int .i64 0, .string ⟨#[]⟩, .int .i64 0]
theorem Tryz.infoTok : (Tryz.prog.info? 32).map (fun i => (i.zero, i.size, i.bytes)) = some (some zTok, 3, 32) := by kernel_rfl
theorem three_cell (w : World) (B : Nat) (hB : B = w.heap.size) (a b c : Value) {E : TypeId} : ∀ (j : Nat) (x : Value), [a, b, c][j]? = some x → (w.alloc (.cells #[a, b, c] E)).cell? ((⟨B, 0, none⟩ : Addr).add j) = some x := by
  intro j x hj
  subst hB
  match j, hj with
  | 0, hj => simp only [List.getElem?_cons_zero, Option.some.injEq] at hj; subst hj; simp [Addr.add, go_sem]
  | 1, hj => simp only [List.getElem?_cons_succ, List.getElem?_cons_zero, Option.some.injEq] at hj; subst hj; simp [Addr.add, go_sem]
  | 2, hj => simp only [List.getElem?_cons_succ, List.getElem?_cons_zero, Option.some.injEq] at hj; subst hj; simp [Addr.add, go_sem]
theorem three_ok (x : Int) (t : ByteArray) (n : Int) : ∀ u ∈ [Value.int .i64 x, .string t, .int .i64 n], u.oneCell' = true := by simp [Value.oneCell']
theorem own_le {w : World} {B C : Nat} {E : TypeId} {m n : Nat} {v : Value} {xs : List Value} (h : w.ownsRow B E m v n xs) (hc : C ≤ B) : w.ownsRow C E m v n xs := by
  refine ⟨h.1, ?_⟩
  rcases h.2 with h | ⟨x, cap, cur, a, b, c, d, e, f, g⟩
  · exact .inl h
  · exact .inr ⟨x, cap, cur, a, Nat.le_trans hc b, c, d, e, f, g⟩
theorem row_slice {w : World} {B : Nat} {E : TypeId} {m n : Nat} {v : Value} {xs : List Value} (h : w.ownsRow B E m v n xs) : ∃ (A : Option Addr) (cap : Nat), v = .slice A n cap ∧ n ≤ cap := by
  rcases h.2 with ⟨rfl, h0⟩ | ⟨x, cap, cur, rfl, _, _, hc, _⟩
  · exact ⟨none, 0, by rw [h0], by omega⟩
  · exact ⟨_, cap, rfl, hc⟩
theorem cells_next {ts : List Tk.Tok} {t : Tk.Tok} {w : World} {B : Nat} {E : TypeId} {v : Value} (h : w.ownsRow B E 3 v (ts.length + 1) (Tk.cells ts ++ [.int .i64 t.1, .string t.2.1, .int .i64 t.2.2])) : w.ownsRow B E 3 v (ts ++ [t]).length (Tk.cells (ts ++ [t])) := by
  rw [Tk.cells_app, List.length_append]; exact h
/-- a new row of tokens, and no error -/
def Toks (ts : List Tk.Tok) (w : World) (e : Ending) (w' : World) : Prop :=
  ∃ v, e = .returned (.tuple #[v, .int .i64 0]) ∧ w'.ownsRow w.heap.size 32 3 v ts.length (Tk.cells ts) ∧ Below w.heap.size w w'
namespace Tk
theorem rd_chr {bl : List Int} (h : Ru.By bl) : ∀ c ∈ Ru.rd bl, 0 ≤ c ∧ c ≤ 1114111 := fun c hc => by
  have := (Ru.rd_ok h c hc).1
  unfold Ru.Is at this
  omega
end Tk
end Go.Proofs.YtgcmjkimiakibaaGreatDoor

/-
  Words for slices of tokens that are read; the walk of the laws' Same.
-/
namespace Go.Proofs.YtgcmjkimiakibaaGreatDoor
open Go.RowKit

namespace Tk
def tk (ts : List Tok) (j : Nat) : Tok := ts.getD j (0, ⟨#[]⟩, 0)
theorem tk_eq {ts : List Tok} {j : Nat} (h : j < ts.length) : tk ts j = ts[j] := by
  unfold tk; rw [List.getD_eq_getElem?_getD, List.getElem?_eq_getElem h]; rfl
theorem cells_at : ∀ (ts : List Tok) (j : Nat), j < ts.length → (cells ts)[j * 3]? = some (.int .i64 (tk ts j).1) ∧ (cells ts)[j * 3 + 1]? = some (.string (tk ts j).2.1) ∧ (cells ts)[j * 3 + 2]? = some (.int .i64 (tk ts j).2.2)
  | [], j, h => by simp at h
  | t :: ts, 0, _ => ⟨rfl, rfl, rfl⟩
  | t :: ts, j + 1, h => by
    have ih := cells_at ts j (by simp at h; omega)
    have e : cells (t :: ts) = [.int .i64 t.1, .string t.2.1, .int .i64 t.2.2] ++ cells ts := rfl
    have e2 : tk (t :: ts) (j + 1) = tk ts j := rfl
    rw [e, e2]
    refine ⟨?_, ?_, ?_⟩
    · rw [List.getElem?_append_right (by simp; omega)]
      rw [show (j + 1) * 3 - [Value.int .i64 t.1, .string t.2.1, .int .i64 t.2.2].length = j * 3 by simp; omega]; exact ih.1
    · rw [List.getElem?_append_right (by simp; omega)]
      rw [show (j + 1) * 3 + 1 - [Value.int .i64 t.1, .string t.2.1, .int .i64 t.2.2].length = j * 3 + 1 by simp; omega]; exact ih.2.1
    · rw [List.getElem?_append_right (by simp; omega)]
      rw [show (j + 1) * 3 + 2 - [Value.int .i64 t.1, .string t.2.1, .int .i64 t.2.2].length = j * 3 + 2 by simp; omega]; exact ih.2.2
end Tk
/-- the slice at A of ts's length reads as ts, below block B -/
def Ts (w : World) (B : Nat) (A : Option Addr) (ts : List Tk.Tok) : Prop :=
  0 < ts.length → ∃ b off, A = some ⟨b, off, none⟩ ∧ b < B ∧ ∀ j, j < ts.length → w.cell? ⟨b, off + j * 3, none⟩ = some (.int .i64 (Tk.tk ts j).1) ∧ w.cell? ⟨b, off + j * 3 + 1, none⟩ = some (.string (Tk.tk ts j).2.1) ∧ w.cell? ⟨b, off + j * 3 + 2, none⟩ = some (.int .i64 (Tk.tk ts j).2.2)
section
variable {w w' : World} {B B' : Nat} {A : Option Addr} {ts : List Tk.Tok}
theorem Ts.keep (h : Ts w B A ts) (hk : ∀ p : Addr, p.block < B → w'.cell? p = w.cell? p) : Ts w' B A ts := fun hl => by
  obtain ⟨b, off, e, hb, hc⟩ := h hl
  refine ⟨b, off, e, hb, fun j hj => ?_⟩
  obtain ⟨h0, h1, h2⟩ := hc j hj
  exact ⟨(hk ⟨b, _, none⟩ hb).trans h0, (hk ⟨b, _, none⟩ hb).trans h1, (hk ⟨b, _, none⟩ hb).trans h2⟩
theorem Ts.more (h : Ts w B A ts) (hB : B ≤ B') : Ts w B' A ts := fun hl => by
  obtain ⟨b, off, e, hb, hc⟩ := h hl
  exact ⟨b, off, e, by omega, hc⟩
theorem Ts.below (h : Ts w B A ts) (hb : Below B w w') : Ts w' B A ts := h.keep fun _ hp => hb.cell hp
theorem Ts.next (h : Ts w w.heap.size A ts) (hb : Below w.heap.size w w') : Ts w' w'.heap.size A ts := (h.below hb).more hb.size
theorem Ts.of_own {base : Nat} {e : TypeId} {c : Nat} (h : w.ownsRow base e 3 (.slice A ts.length c) ts.length (Tk.cells ts)) : Ts w w.heap.size A ts := fun hl => by
  obtain ⟨x, cap, hv, _, hlt⟩ := h.form hl
  have hA : A = some ⟨x, 0, none⟩ := by injection hv
  subst hA
  refine ⟨x, 0, rfl, hlt, fun j hj => ?_⟩
  obtain ⟨h0, h1, h2⟩ := Tk.cells_at ts j hj
  have c := h.cells (g := x) rfl
  have g0 := c _ _ h0
  have g1 := c _ _ h1
  have g2 := c _ _ h2
  rw [Addr.add_lit] at g0 g1 g2
  exact ⟨g0, g1, g2⟩
end
/-- what Scan tells, as a slice that reads -/
def Told3 (ts : List Tk.Tok) (w : World) (e : Ending) (w' : World) : Prop :=
  ∃ (A : Option Addr) (cap : Nat), e = .returned (.tuple #[.slice A ts.length cap, .int .i64 0]) ∧ ts.length ≤ cap ∧ Ts w' w'.heap.size A ts ∧ Below w.heap.size w w'
theorem told3 {ts : List Tk.Tok} {w : World} {e : Ending} {w' : World} (h : Toks ts w e w') : Told3 ts w e w' := by
  obtain ⟨v, he, ho, hb⟩ := h
  obtain ⟨A, cap, rfl, hc⟩ := row_slice ho
  exact ⟨A, cap, he, hc, Ts.of_own ho, hb⟩

set_option maxHeartbeats 1000000 in
set_option maxRecDepth 100000 in
theorem same_any (ts : List Tk.Tok) (A C : Option Addr) (ca cb : Nat) (w : World) (hm : ts.length ≤ 65536) (hA : Ts w w.heap.size A ts) (hC : Ts w w.heap.size C ts) :
    Calls Tryz.prog 11 #[.slice A ts.length ca, .slice C ts.length cb] w (Yes w) := by
  have HA := Lib.hid hA
  have HC := Lib.hid hC
  clear hA hC
  go_enter Tryz.func11, Tryz.ntmps11
  go_wp2_with fail
  go_loopw [13] (fun v13 wr => ∃ k : Nat, k ≤ ts.length ∧ v13 = .int .i64 k ∧ Below w.heap.size w wr) (fun v13 _ => ts.length - (RowKit.intOf v13).toNat)
  case atStart => exact ⟨0, Nat.zero_le _, rfl, Below.refl _ _⟩
  case round =>
    obtain ⟨k, hk, rfl, hb⟩ := hrel
    have HB := Lib.hid hb
    clear hb
    by_cases hlt : k < ts.length
    · obtain ⟨b, off, rfl, _, hp⟩ := HA.out.next HB.out (by omega)
      obtain ⟨b2, off2, rfl, _, hp2⟩ := HC.out.next HB.out (by omega)
      obtain ⟨p0, p1, p2⟩ := hp k hlt
      obtain ⟨q0, q1, q2⟩ := hp2 k hlt
      clear hp hp2
      generalize Tk.tk ts k = t at *
      obtain ⟨kd, tx, nv⟩ := t
      simp only at p0 p1 p2 q0 q1 q2
      go_wp2_with fail
      go_quiet (fail)
      go_wp2_with fail
      go_roundw
      case rel => exact ⟨k + 1, by omega, by go_num, below_drewN HB.out _⟩
      case measure => simp [RowKit.intOf]; omega
    · go_wp2_with fail
      go_ret
      exact ⟨rfl, HB.out⟩
end Go.Proofs.YtgcmjkimiakibaaGreatDoor

/-
  The walks of print's stands, apart; what stands behind a place of a slice of tokens.
-/
namespace Go.Proofs.YtgcmjkimiakibaaGreatDoor
open Go.RowKit

namespace Pr
open Ru Tk
/-- the kind behind a place -/
def nxK (us : List Tok) (j : Nat) : Option Int := if j < us.length then some (tk us j).1 else none
def stnB (kd : Int) (t : ByteArray) (nx : Option Int) : Bool := if kd = 1 then decide (nx ≠ some 1) else if kd = 7 then decide (nx = some 1) else if kd = 11 ∧ t = ⟨#[92]⟩ then decide (nx = some 1 ∨ nx = none) else true
def apartB (a b : Int) : Bool := decide (¬ F1 a) && decide (¬ F2 b)
end Pr
/-- the slice's first token is of the kind that is told, if there is one -/
def HeadK (w : World) (A : Option Addr) (m : Nat) (nx : Option Int) : Prop :=
  (m = 0 ∧ nx = none) ∨ (0 < m ∧ ∃ b off k1, A = some ⟨b, off, none⟩ ∧ b < w.heap.size ∧ w.cell? ⟨b, off, none⟩ = some (.int .i64 k1) ∧ nx = some k1)
theorem HeadK.next {w w1 : World} {A : Option Addr} {m : Nat} {nx : Option Int} (h : HeadK w A m nx) (hb : Below w.heap.size w w1) : HeadK w1 A m nx := by
  rcases h with h | ⟨h0, b, off, k1, h1, h2, h3, h4⟩
  · exact .inl h
  · exact .inr ⟨h0, b, off, k1, h1, Nat.lt_of_lt_of_le h2 hb.size, (hb.cell (p := ⟨b, off, none⟩) h2).trans h3, h4⟩
theorem elem_tok (w : World) : (sizeOf (Tryz.prog.elem 22)).run Tryz.prog w = .ok 3 w := by kernel_rfl
theorem under_toks : Tryz.prog.underlying 22 = some (.slice (Tryz.prog.elem 22)) := by kernel_rfl
theorem tail_slice {w : World} {A : Option Addr} {us : List Tk.Tok} {cap k : Nat} (h : Ts w w.heap.size A us) (hk : k < us.length) (hc : us.length ≤ cap) :
    ∃ A', (∀ W, (Instr.slice 22 (.slice A us.length cap) (some (.int .i64 ((k : Int) + 1))) none none).run Tryz.prog W = .ok (.slice A' (us.length - (k + 1)) (cap - (k + 1))) W) ∧ HeadK w A' (us.length - (k + 1)) (Pr.nxK us (k + 1)) := by
  obtain ⟨b, off, rfl, hb, hp⟩ := h (by omega)
  have hrun : ∀ W, (Instr.slice 22 (.slice (some ⟨b, off, none⟩) us.length cap) (some (.int .i64 ((k : Int) + 1))) none none).run Tryz.prog W = .ok (sliced (some ⟨b, off, none⟩) (k + 1) us.length cap 3) W := fun W => by
    rw [run_slice_l W 22 _ _ _ under_toks .i64 ((k : Int) + 1) (by omega) (by omega), elem_tok]
    simp only [Result.andThen_ok]
    rw [show ((k : Int) + 1).toNat = k + 1 by omega]
  by_cases hlt : k + 1 < us.length
  · refine ⟨some ⟨b, off + (k + 1) * 3, none⟩, fun W => ?_, .inr ⟨by omega, b, off + (k + 1) * 3, (Tk.tk us (k + 1)).1, rfl, hb, (hp (k + 1) hlt).1, by unfold Pr.nxK; rw [if_pos hlt]⟩⟩
    rw [hrun W]
    unfold sliced
    rw [if_neg (by omega), Option.map_some, Addr.add_lit]
  · refine ⟨if cap = k + 1 then some (⟨b, off, none⟩ : Addr) else Option.map (fun x : Addr => x.add ((k + 1) * 3)) (some (⟨b, off, none⟩ : Addr)), fun W => ?_, .inl ⟨by omega, by unfold Pr.nxK; rw [if_neg hlt]⟩⟩
    rw [hrun W]
    rfl

set_option maxHeartbeats 2000000 in
set_option maxRecDepth 100000 in
theorem stands_any (kd n : Int) (t : ByteArray) (A : Option Addr) (m c : Nat) (nx : Option Int) (w : World) (h : HeadK w A m nx) (hm : m ≤ 9223372036854775807) :
    Calls Tryz.prog 60 #[tokV kd t n, .slice A m c] w (Bo (Pr.stnB kd t nx) w) := by
  obtain ⟨W0, hW⟩ : ∃ W0, W0 = w.alloc (.cells #[.int .i64 kd, .string t, .int .i64 n] 32) := ⟨_, rfl⟩
  have hb0 : Below w.heap.size w W0 := by rw [hW]; exact (Below.refl _ _).alloc (Nat.le_refl _) _
  obtain ⟨q0, q1, q2⟩ := three_cells (w := w) (x := .int .i64 kd) (y := .string t) (z := .int .i64 n) (E := 32)
  rw [← hW] at q0 q1 q2
  have HB0 := Lib.hid hb0
  have H := h.next hb0
  have key : ∀ b : Bool, Pr.stnB kd t nx = b → Calls Tryz.prog 60 #[.agg #[.int .i64 kd, .string t, .int .i64 n], .slice A m c] w (Bo b w) := by
    intro bb hbb
    rcases H with ⟨rfl, rfl⟩ | ⟨h0, b, off, k1, rfl, _, hcell, rfl⟩
    · skip
      by_cases g1 : kd = 1
      · subst g1
        obtain rfl : bb = true := by rw [← hbb]; rfl
        clear hbb h hb0 q2
        go_enter Tryz.func60, Tryz.ntmps60
        go_upto_region 1 with fail
        rw [← hW]
        clear hW
        go_wp2_with fail
        go_ret
        exact ⟨rfl, HB0.out⟩
      · have n1 := Ru.eq_f g1
        by_cases g7 : kd = 7
        · subst g7
          obtain rfl : bb = false := by rw [← hbb]; rfl
          clear hbb h hb0 q2
          go_enter Tryz.func60, Tryz.ntmps60
          go_upto_region 1 with fail
          rw [← hW]
          clear hW
          go_wp2_with fail
          go_ret
          exact ⟨rfl, HB0.out⟩
        · have n7 := Ru.eq_f g7
          by_cases g11 : kd = 11
          · subst g11
            by_cases gt : t = ⟨#[92]⟩
            · subst gt
              obtain rfl : bb = true := by rw [← hbb]; rfl
              clear hbb h hb0 q2 g1 g7 n1 n7
              go_enter Tryz.func60, Tryz.ntmps60
              go_upto_region 1 with fail
              rw [← hW]
              clear hW
              go_wp2_with fail
              go_ret
              exact ⟨rfl, HB0.out⟩
            · have gt' : (t.toList == [92]) = false := by rw [str_test]; exact decide_eq_false gt
              obtain rfl : bb = true := by rw [← hbb]; unfold Pr.stnB; simp [gt]
              clear hbb h hb0 q2 g1 g7 n1 n7 gt
              go_enter Tryz.func60, Tryz.ntmps60
              go_upto_region 1 with fail
              rw [← hW]
              clear hW
              go_wp2_with fail
              go_ret
              exact ⟨rfl, HB0.out⟩
          · have n11 := Ru.eq_f g11
            obtain rfl : bb = true := by rw [← hbb]; unfold Pr.stnB; simp [g1, g7, g11]
            clear hbb h hb0 q2 g1 g7 g11
            go_enter Tryz.func60, Tryz.ntmps60
            go_upto_region 1 with fail
            rw [← hW]
            clear hW
            go_wp2_with fail
            go_ret
            exact ⟨rfl, HB0.out⟩
    · have hm0 := Ru.eq_f (show ¬ (m : Int) = 0 by omega)
      by_cases hk1 : k1 = 1
      · subst hk1
        by_cases g1 : kd = 1
        · subst g1
          obtain rfl : bb = false := by rw [← hbb]; rfl
          clear hbb h hb0 q2
          go_enter Tryz.func60, Tryz.ntmps60
          go_upto_region 1 with fail
          rw [← hW]
          clear hW
          go_wp2_with fail
          go_ret
          exact ⟨rfl, HB0.out⟩
        · have n1 := Ru.eq_f g1
          by_cases g7 : kd = 7
          · subst g7
            obtain rfl : bb = true := by rw [← hbb]; rfl
            clear hbb h hb0 q2
            go_enter Tryz.func60, Tryz.ntmps60
            go_upto_region 1 with fail
            rw [← hW]
            clear hW
            go_wp2_with fail
            go_ret
            exact ⟨rfl, HB0.out⟩
          · have n7 := Ru.eq_f g7
            by_cases g11 : kd = 11
            · subst g11
              by_cases gt : t = ⟨#[92]⟩
              · subst gt
                obtain rfl : bb = true := by rw [← hbb]; rfl
                clear hbb h hb0 q2 g1 g7 n1 n7
                go_enter Tryz.func60, Tryz.ntmps60
                go_upto_region 1 with fail
                rw [← hW]
                clear hW
                go_wp2_with fail
                go_ret
                exact ⟨rfl, HB0.out⟩
              · have gt' : (t.toList == [92]) = false := by rw [str_test]; exact decide_eq_false gt
                obtain rfl : bb = true := by rw [← hbb]; unfold Pr.stnB; simp [gt]
                clear hbb h hb0 q2 g1 g7 n1 n7 gt
                go_enter Tryz.func60, Tryz.ntmps60
                go_upto_region 1 with fail
                rw [← hW]
                clear hW
                go_wp2_with fail
                go_ret
                exact ⟨rfl, HB0.out⟩
            · have n11 := Ru.eq_f g11
              obtain rfl : bb = true := by rw [← hbb]; unfold Pr.stnB; simp [g1, g7, g11]
              clear hbb h hb0 q2 g1 g7 g11
              go_enter Tryz.func60, Tryz.ntmps60
              go_upto_region 1 with fail
              rw [← hW]
              clear hW
              go_wp2_with fail
              go_ret
              exact ⟨rfl, HB0.out⟩
      · have nk := Ru.eq_f hk1
        by_cases g1 : kd = 1
        · subst g1
          obtain rfl : bb = true := by rw [← hbb]; unfold Pr.stnB; simp [hk1]
          clear hbb h hb0 q2 hk1
          go_enter Tryz.func60, Tryz.ntmps60
          go_upto_region 1 with fail
          rw [← hW]
          clear hW
          go_wp2_with fail
          go_ret
          exact ⟨rfl, HB0.out⟩
        · have n1 := Ru.eq_f g1
          by_cases g7 : kd = 7
          · subst g7
            obtain rfl : bb = false := by rw [← hbb]; unfold Pr.stnB; simp [hk1]
            clear hbb h hb0 q2 hk1
            go_enter Tryz.func60, Tryz.ntmps60
            go_upto_region 1 with fail
            rw [← hW]
            clear hW
            go_wp2_with fail
            go_ret
            exact ⟨rfl, HB0.out⟩
          · have n7 := Ru.eq_f g7
            by_cases g11 : kd = 11
            · subst g11
              by_cases gt : t = ⟨#[92]⟩
              · subst gt
                obtain rfl : bb = false := by rw [← hbb]; unfold Pr.stnB; simp [hk1]
                clear hbb h hb0 q2 g1 g7 n1 n7 hk1
                go_enter Tryz.func60, Tryz.ntmps60
                go_upto_region 1 with fail
                rw [← hW]
                clear hW
                go_wp2_with fail
                go_ret
                exact ⟨rfl, HB0.out⟩
              · have gt' : (t.toList == [92]) = false := by rw [str_test]; exact decide_eq_false gt
                obtain rfl : bb = true := by rw [← hbb]; unfold Pr.stnB; simp [gt]
                clear hbb h hb0 q2 g1 g7 n1 n7 gt hk1
                go_enter Tryz.func60, Tryz.ntmps60
                go_upto_region 1 with fail
                rw [← hW]
                clear hW
                go_wp2_with fail
                go_ret
                exact ⟨rfl, HB0.out⟩
            · have n11 := Ru.eq_f g11
              obtain rfl : bb = true := by rw [← hbb]; unfold Pr.stnB; simp [g1, g7, g11]
              clear hbb h hb0 q2 g1 g7 g11 hk1
              go_enter Tryz.func60, Tryz.ntmps60
              go_upto_region 1 with fail
              rw [← hW]
              clear hW
              go_wp2_with fail
              go_ret
              exact ⟨rfl, HB0.out⟩
  exact key _ rfl

set_option maxHeartbeats 2000000 in
set_option maxRecDepth 100000 in
theorem apart_any (a b : Int) (w : World) : Calls Tryz.prog 21 #[.int .i64 a, .int .i64 b] w fun e w' => e = .returned (.bool (Pr.apartB a b)) ∧ w = w' := by
  by_cases ha : Pr.F1 a
  · have e : Pr.apartB a b = false := by unfold Pr.apartB; simp [ha]
    rw [e]
    clear e
    unfold Pr.F1 at ha
    rcases ha with rfl | rfl | rfl | rfl | rfl | rfl | rfl | rfl
    all_goals
      go_enter Tryz.func21, Tryz.ntmps21
      go_wp2_with fail
      go_ret
      exact ⟨rfl, rfl⟩
  · have a1 := Ru.eq_f (show ¬ a = 1 from fun h => ha (by unfold Pr.F1; omega))
    have a2 := Ru.eq_f (show ¬ a = 3 from fun h => ha (by unfold Pr.F1; omega))
    have a3 := Ru.eq_f (show ¬ a = 12 from fun h => ha (by unfold Pr.F1; omega))
    have a4 := Ru.eq_f (show ¬ a = 13 from fun h => ha (by unfold Pr.F1; omega))
    have a5 := Ru.eq_f (show ¬ a = 6 from fun h => ha (by unfold Pr.F1; omega))
    have a6 := Ru.eq_f (show ¬ a = 14 from fun h => ha (by unfold Pr.F1; omega))
    have a7 := Ru.eq_f (show ¬ a = 15 from fun h => ha (by unfold Pr.F1; omega))
    have a8 := Ru.eq_f (show ¬ a = 16 from fun h => ha (by unfold Pr.F1; omega))
    by_cases hb : Pr.F2 b
    · have e : Pr.apartB a b = false := by unfold Pr.apartB; simp [hb]
      rw [e]
      clear e ha
      unfold Pr.F2 at hb
      rcases hb with rfl | rfl | rfl | rfl | rfl | rfl
      all_goals
        go_enter Tryz.func21, Tryz.ntmps21
        go_wp2_with fail
        go_ret
        exact ⟨rfl, rfl⟩
    · have e : Pr.apartB a b = true := by unfold Pr.apartB; simp [ha, hb]
      rw [e]
      have b1 := Ru.eq_f (show ¬ b = 1 from fun h => hb (by unfold Pr.F2; omega))
      have b2 := Ru.eq_f (show ¬ b = 13 from fun h => hb (by unfold Pr.F2; omega))
      have b3 := Ru.eq_f (show ¬ b = 6 from fun h => hb (by unfold Pr.F2; omega))
      have b4 := Ru.eq_f (show ¬ b = 14 from fun h => hb (by unfold Pr.F2; omega))
      have b5 := Ru.eq_f (show ¬ b = 15 from fun h => hb (by unfold Pr.F2; omega))
      have b6 := Ru.eq_f (show ¬ b = 16 from fun h => hb (by unfold Pr.F2; omega))
      clear e ha hb
      go_enter Tryz.func21, Tryz.ntmps21
      go_wp2_with fail
      go_ret
      exact ⟨rfl, rfl⟩
end Go.Proofs.YtgcmjkimiakibaaGreatDoor
