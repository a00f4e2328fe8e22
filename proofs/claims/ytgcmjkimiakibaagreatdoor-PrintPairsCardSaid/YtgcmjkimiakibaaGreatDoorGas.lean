/-
  How tokens, and slices of tokens, come in and go out; the library's tables out of the row.
-/
import Derived.Test.YtgcmjkimiakibaaGreatDoorGap
import Derived.Test.YtgcmjkimiakibaaGreatDoorGaj
import Derived.Test.YtgcmjkimiakibaaGreatDoorGaq
import Derived.Test.YtgcmjkimiakibaaGreatDoorGar
import Derived.Lib.SmallJoins
import Derived.Lib.LaidTab
import Derived.Deep.Slices
import Derived.Deep.SlicePairs
import Derived.Deep.Strs
import Derived.DataShut
import Derived.Stop.LaidErr
import Derived.LoopTactic
import Derived.IntWalk
import Derived.Outline
import Derived.Deep.QuietTactic
import Derived.BigQuiet
namespace Go.Proofs.YtgcmjkimiakibaaGreatDoor
open Go.Lib Go.Joins Go.Deep
open Go.ChangeShapes Go.WideShapes Go.ChangeAt Go.RowKit Go.WideMaps Go.WideElems
open Go.ChangeMaps (setBlock shut_map_nil open_string shut_string)

section
variable {H : Type} {enc : TypeId × Value → H}
def tokD (u : Tk.Tok) : DataW H := .agg [.lit (.int .i64 u.1), .lit (.string u.2.1.data.toList), .lit (.int .i64 u.2.2)]
def TokWf (u : Tk.Tok) : Prop := (Lit.int .i64 u.1).wf = true ∧ u.2.1.size ≤ maxLen ∧ (Lit.int .i64 u.2.2).wf = true
theorem i64_wf {n : Int} (h : (Lit.int .i64 n).wf = true) : I64 n := by
  simpa [Lit.wf, IntKind.min, IntKind.max, IntKind.signed, IntKind.bits, I64] using h
theorem tok_shut_gen {P : Program} {t : TypeId} {f0 f1 f2 : Field} (hs : P.underlying t = some (.struct #[f0, f1, f2])) (hone : oneCellFields P #[f0, f1, f2] = true) (hC : P.cellsOf t = 3) (i0 : P.underlying f0.type = some (.int .i64)) (i1 : P.underlying f1.type = some .string) (i2 : P.underlying f2.type = some (.int .i64))
    (u : Tk.Tok) {W : World} {base : Nat} {sp : Nat → Bool} {held : Bool} (h : TokWf u) : ∃ n, DataW.trod enc P W base sp held n t [.int .i64 u.1, .string u.2.1, .int .i64 u.2.2] = some (tokD u, []) := by
  obtain ⟨n, hn⟩ := shut_agg3 (enc := enc) (w := W) (base := base) (spare := sp) (held := held) (v0 := .int .i64 u.1) (v1 := .string u.2.1) (v2 := .int .i64 u.2.2) (y0 := (.lit (.int .i64 u.1), [])) (y1 := (.lit (.string u.2.1.data.toList), [])) (y2 := (.lit (.int .i64 u.2.2), [])) hs hone hC
    ⟨1, trod_int_mk 0 i0 h.1⟩ ⟨1, by simp [DataW.trod, i1, h.2.1]⟩ ⟨1, trod_int_mk 0 i2 h.2.2⟩
  exact ⟨n, by simpa [Value.cells, tokD] using hn⟩
theorem tok_back_gen {P : Program} {t : TypeId} {f0 f1 f2 : Field} (hs : P.underlying t = some (.struct #[f0, f1, f2])) (hone : oneCellFields P #[f0, f1, f2] = true) (hC : P.cellsOf t = 3) (i0 : P.underlying f0.type = some (.int .i64)) (i1 : P.underlying f1.type = some .string) (i2 : P.underlying f2.type = some (.int .i64))
    {W : World} {base : Nat} {sp : Nat → Bool} {held : Bool} {n : Nat} {cs : List Value} {x : DataW H × List MemPlace} (h : DataW.trod enc P W base sp held n t cs = some x) :
    ∃ u : Tk.Tok, cs = [.int .i64 u.1, .string u.2.1, .int .i64 u.2.2] ∧ TokWf u ∧ x = (tokD u, []) := by
  obtain ⟨y0, y1, y2, n', rfl, hl, h0, h1, h2⟩ := trod_struct3 hs h
  obtain ⟨o0, k0⟩ := hone_of hone 0 f0 rfl
  obtain ⟨o1, k1⟩ := hone_of hone 1 f1 rfl
  obtain ⟨o2, k2⟩ := hone_of hone 2 f2 rfl
  rw [o0, k0] at h0
  rw [o1, k1] at h1
  rw [o2, k2] at h2
  match cs, hl.trans hC with
  | [a, b, c], _ =>
    obtain ⟨k, e0, rfl, w0⟩ := DataW.trod_int i0 h0
    obtain ⟨s, e1, rfl, w1⟩ := DataW.trod_string i1 h1
    obtain ⟨m, e2, rfl, w2⟩ := DataW.trod_int i2 h2
    refine ⟨(k, s, m), ?_, ⟨w0, w1, w2⟩, rfl⟩
    simp at e0 e1 e2
    rw [e0, e1, e2]
theorem tok_shut (u : Tk.Tok) {W : World} {base : Nat} {sp : Nat → Bool} {held : Bool} (h : TokWf u) : ∃ n, DataW.trod enc Tryz.prog W base sp held n 32 [.int .i64 u.1, .string u.2.1, .int .i64 u.2.2] = some (tokD u, []) :=
  tok_shut_gen Tryz.underlying32 (by kernel_rfl) (by kernel_rfl) Tryz.underlying3 Tryz.underlying9 Tryz.underlying3 u h
theorem tok_back {W : World} {base : Nat} {sp : Nat → Bool} {held : Bool} {n : Nat} {cs : List Value} {x : DataW H × List MemPlace} (h : DataW.trod enc Tryz.prog W base sp held n 32 cs = some x) :
    ∃ u : Tk.Tok, cs = [.int .i64 u.1, .string u.2.1, .int .i64 u.2.2] ∧ TokWf u ∧ x = (tokD u, []) :=
  tok_back_gen Tryz.underlying32 (by kernel_rfl) (by kernel_rfl) Tryz.underlying3 Tryz.underlying9 Tryz.underlying3 h
instance : Inhabited Tk.Tok := ⟨(0, ⟨#[]⟩, 0)⟩
set_option maxRecDepth 100000 in
/-- a slice of tokens that came in -/
theorem open_toks {W : World} {base : Nat} {v : Value} {d : DataW H} {p : List MemPlace} (hval : Value.okWide Tryz.prog W .any base 22 v) (h : DataW.Trod enc Tryz.prog W 0 (fun _ => true) true 22 v d p) :
    ∃ (A : Option Addr) (cap : Nat) (us : List Tk.Tok), v = .slice A us.length cap ∧ us.length ≤ cap ∧ us.length ≤ 9223372036854775807 ∧ Ts W W.heap.size A us ∧ Pr.Wf us ∧
      ∀ W', Below W.heap.size W W' → ∀ sp : Nat → Bool, (∀ x ∈ p, sp x.block = true) → DataW.Trod enc Tryz.prog W' 0 sp true 22 v d p := by
  obtain ⟨a1, len, cap, rfl⟩ := okWide_slice Tryz.underlying22 hval
  obtain ⟨fuel, hf⟩ := h
  rcases open_slice Tryz.underlying22 hf with ⟨hcs, hx⟩ | ⟨a, len', cap', m, n, D, Pl, hcs, hb, hl, hm, hmm, hx, hi⟩
  · simp [Value.cells] at hcs
    obtain ⟨rfl, rfl, rfl⟩ := hcs
    simp only [Prod.mk.injEq] at hx
    obtain ⟨rfl, rfl⟩ := hx
    refine ⟨none, 0, [], rfl, Nat.le_refl _, by simp, fun hl => by simp at hl, fun j hj => by simp at hj, fun W' _ sp _ => shut_slice_nil Tryz.underlying22⟩
  · simp [Value.cells] at hcs
    obtain ⟨rfl, rfl, rfl⟩ := hcs
    have hC : Tryz.prog.cellsOf 32 = 3 := by kernel_rfl
    simp only [Prod.mk.injEq] at hx
    obtain ⟨hxd, hxp⟩ := hx
    rw [if_pos rfl] at hmm
    subst hmm
    have hone : ∀ i, i < m → ∃ u : Tk.Tok, (∀ j x, [Value.int .i64 u.1, .string u.2.1, .int .i64 u.2.2][j]? = some x → W.cell? ((a.add (i * 3)).add j) = some x) ∧ TokWf u ∧ D i = tokD u ∧ Pl i = [] := fun i him => by
      obtain ⟨cs', hc, ht⟩ := hi i him
      obtain ⟨u, rfl, hw, he⟩ := tok_back ht
      obtain ⟨_, _, hat⟩ := World.cells?_some hc
      simp only [Prod.mk.injEq] at he
      refine ⟨u, fun j x hj => ?_, hw, he.1, he.2⟩
      have hj3 : j < 3 := (List.getElem?_eq_some_iff.1 hj).1
      have := hat j (by rw [hC]; exact hj3)
      rw [hC] at this
      rw [this, hj]
    obtain ⟨U, hU⟩ := choose_lt hone
    have hlen : ((List.range len).map U).length = len := by simp
    have htk : ∀ j, j < len → Tk.tk ((List.range len).map U) j = U j := fun j hj => by
      rw [Tk.tk_eq (by rw [hlen]; exact hj)]
      simp
    have hblk : 0 < m → a.block < W.heap.size ∧ a.spot = none := fun h => by
      have h0 := (hU 0 h).1 0 _ rfl
      rw [Nat.zero_mul] at h0
      exact ⟨by simpa [Addr.add] using World.block_lt_of_cell? W _ h0, by simpa [Addr.add] using World.cell?_spot h0⟩
    rw [hxd, hxp]
    rw [hxp] at *
    refine ⟨some a, m, (List.range len).map U, by rw [hlen], by rw [hlen]; exact hl, by rw [hlen]; unfold maxLen at hm; omega, fun h0 => ?_, fun j hj => ?_, fun W' hb' sp hsp => ?_⟩
    · rw [hlen] at h0
      obtain ⟨b, off, spot⟩ := a
      have hh := hblk (by omega)
      have hs : spot = none := hh.2
      subst hs
      refine ⟨b, off, rfl, hh.1, fun j hj => ?_⟩
      rw [hlen] at hj
      rw [htk j hj]
      have hc := (hU j (by omega)).1
      refine ⟨?_, ?_, ?_⟩
      · have := hc 0 _ rfl
        rw [Addr.add_lit, Addr.add_lit] at this
        exact this
      · have := hc 1 _ rfl
        rw [Addr.add_lit, Addr.add_lit] at this
        exact this
      · have := hc 2 _ rfl
        rw [Addr.add_lit, Addr.add_lit] at this
        exact this
    · rw [hlen] at hj
      rw [htk j hj]
      have := (hU j (by omega)).2.1
      exact ⟨i64_wf this.1, i64_wf this.2.2⟩
    · by_cases hm0 : m = 0
      · subst hm0
        have hl0 : len = 0 := by omega
        subst hl0
        have hspf : sp a.block = true ∨ sp a.block = false := by cases sp a.block <;> simp
        rcases hspf with hspt | hspt
        · exact shut_slice_whole Tryz.underlying22 hb (Nat.le_refl _) hm hspt D Pl (fun i hi => by omega)
        · have := shut_slice (enc := enc) (P := Tryz.prog) (w := W') (held := true) Tryz.underlying22 hb (Nat.le_refl 0) hm hspt D Pl (fun i hi => by omega)
          simpa using this
      · have hspb : sp a.block = true := hsp (.cell a.block a.off) (by
          refine List.mem_append.2 (.inl (MemPlace.mem_row.2 ⟨0, ?_, by simp⟩))
          rw [hC]; omega)
        refine shut_slice_whole Tryz.underlying22 hb hl hm hspb D Pl (fun i hi => ?_)
        obtain ⟨hc, hw, hd, hp⟩ := hU i hi
        obtain ⟨nn, hnn⟩ := tok_shut (enc := enc) (W := W') (base := 0) (sp := sp) (held := true) (U i) hw
        refine ⟨[Value.int .i64 (U i).1, .string (U i).2.1, .int .i64 (U i).2.2], nn, ?_, ?_⟩
        · rw [hC]
          refine World.cells?_of_each (by rw [block_add]; exact hb) rfl fun j hj => ?_
          have hlt : ((a.add (i * 3)).add j).block < W.heap.size := by rw [block_add, block_add]; exact (hblk (by omega)).1
          rw [hb'.cell hlt]
          have hs : ([Value.int .i64 (U i).1, .string (U i).2.1, .int .i64 (U i).2.2][j]?).isSome := by
            rw [List.getElem?_eq_getElem (by simpa using hj)]; rfl
          obtain ⟨x, hx⟩ := Option.isSome_iff_exists.1 hs
          rw [hc j x hx, hx]
        · rw [hd, hp]
          exact hnn
set_option maxRecDepth 100000 in
/-- a token that came in -/
theorem open_tok {W : World} {base : Nat} {v : Value} {d : DataW H} {p : List MemPlace} (hval : Value.okWide Tryz.prog W .any base 32 v) (h : DataW.Trod enc Tryz.prog W 0 (fun _ => true) true 32 v d p) :
    ∃ u : Tk.Tok, v = tokV u.1 u.2.1 u.2.2 ∧ I64 u.1 ∧ I64 u.2.2 ∧ u.2.1.size ≤ maxLen ∧
      ∀ (W' : World) (b : Nat) (sp : Nat → Bool) (hd : Bool), DataW.Trod enc Tryz.prog W' b sp hd 32 v d p := by
  obtain ⟨cs, rfl, hsz⟩ := okWide_struct Tryz.underlying32 hval
  obtain ⟨fuel, hf⟩ := h
  obtain ⟨u, hc, hw, hx⟩ := tok_back hf
  simp only [Prod.mk.injEq] at hx
  obtain ⟨rfl, rfl⟩ := hx
  have hcs : cs = #[.int .i64 u.1, .string u.2.1, .int .i64 u.2.2] := by
    have h1 : cs.toList = [.int .i64 u.1, .string u.2.1, .int .i64 u.2.2] := by simpa [Value.cells] using hc
    rw [← Array.toArray_toList (xs := cs), h1]
  subst hcs
  refine ⟨u, rfl, i64_wf hw.1, i64_wf hw.2.2, hw.2.1, fun W' b sp hd => ?_⟩
  obtain ⟨nn, hnn⟩ := tok_shut (enc := enc) (W := W') (base := b) (sp := sp) (held := hd) u hw
  exact ⟨nn, by simpa [Value.cells] using hnn⟩
end
/-- the tables, out of the row -/
theorem tab64_is : Rows.laid_math_bits_deBruijn64tab (H := Unit) = tabData .u8 (Lib.deBruijn64tab.map fun n : Nat => (n : Int)) := by kernel_rfl
theorem ptab_of {W : World} {r1 r2 : List (String × DataW Unit)} (h64 : laidMet Tryz.prog (("math/bits.deBruijn64tab", Rows.laid_math_bits_deBruijn64tab) :: r1) W) (hpow : laidMet Tryz.prog (("internal/strconv.uint64pow10", Rows.laid_internal_strconv_uint64pow10) :: r2) W) (hU : UTab W.heap.size W) : PTab W.heap.size W := by
  have ht : Tab W.heap.size W := Lib.tabBelow_of_tabIs (Lib.tabIs_of_head (g := 3) (t := 144) (e := 129) (n := 20) (rest := r2) (by kernel_rfl) (by kernel_rfl) (by kernel_rfl) (by kernel_rfl) (by kernel_rfl) (by kernel_rfl) hpow)
  rw [tab64_is] at h64
  have hz := Lib.tabIs_of_head (g := 7) (t := 158) (e := 5) (n := 64) (rest := r1) (by kernel_rfl) (by kernel_rfl) (by kernel_rfl) (by kernel_rfl) (by kernel_rfl) (by kernel_rfl) h64
  have hz' : TabAt 7 Lib.deBruijn64tab W := fun j hj => by
    have := hz.cell (g := 7) (by kernel_rfl) j (by simpa using hj)
    rw [this]
    congr 2
    rw [List.getD_eq_getElem?_getD, List.getD_eq_getElem?_getD, List.getElem?_map]
    cases Lib.deBruijn64tab[j]? <;> rfl
  exact ⟨hU, ht, hz', World.block_lt_of_cell? W _ (hz' 0 (by decide))⟩
end Go.Proofs.YtgcmjkimiakibaaGreatDoor

/-
  The library's tables, out of the rows of seven.
-/
namespace Go.Proofs.YtgcmjkimiakibaaGreatDoor
open Go.Lib
open Go.ChangeShapes Go.WideShapes Go.ChangeAt Go.RowKit Go.WideMaps Go.WideElems

theorem ptab_of7 {W : World} (hL : laidMet Tryz.prog [("math/bits.deBruijn32tab", Rows.laid_math_bits_deBruijn32tab), ("math/bits.deBruijn64tab", Rows.laid_math_bits_deBruijn64tab), ("internal/strconv.uint64pow10", Rows.laid_internal_strconv_uint64pow10), ("unicode/utf8.acceptRanges", Rows.laid_unicode_utf8_acceptRanges), ("strconv.ErrRange", Rows.laid_strconv_ErrRange), ("strconv.ErrSyntax", Rows.laid_strconv_ErrSyntax), ("unicode/utf8.first", Rows.laid_unicode_utf8_first)] W) : PTab W.heap.size W := by
  have h4 := Lib.laidMet.reads hL (.tail _ (.tail _ (.tail _ (.head _))))
  have h3 := Lib.laidMet.reads hL (.tail _ (.tail _ (.tail _ (.tail _ (.tail _ (.tail _ (.head _)))))))
  rw [first_is] at h3
  rw [accept_is] at h4
  exact ptab_of hL.tail hL.tail.tail (tabs_of h3 h4)
end Go.Proofs.YtgcmjkimiakibaaGreatDoor

/-
  The walk of the law's Few.
-/
namespace Go.Proofs.YtgcmjkimiakibaaGreatDoor
open Go.RowKit

set_option maxHeartbeats 4000000 in
set_option maxRecDepth 100000 in
theorem few_any (us : List Tk.Tok) (hn : us.length ≤ 9223372036854775807) (b : Bool) (hb : b = true ↔ Pr.Fair us) (A : Option Addr) (cap : Nat) (w : World) (h : Ts w w.heap.size A us) :
    Calls Tryz.prog 6 #[.slice A us.length cap] w fun e w' => e = .returned (.bool b) ∧ w = w' := by
  have H := Lib.hid h
  have HB := Lib.hid hb
  clear h hb
  go_enter Tryz.func6, Tryz.ntmps6
  go_wp2_with fail
  go_loopw [3] (fun v3 wr => ∃ k : Nat, k ≤ us.length ∧ k ≤ 101 ∧ v3 = .int .i64 k ∧ Hid (∀ j, j < k → (Tk.tk us j).2.1.size ≤ 100) ∧ wr = w) (fun v3 _ => 101 - (RowKit.intOf v3).toNat)
  case atStart => exact ⟨0, Nat.zero_le _, by omega, rfl, Lib.hid (fun j hj => by omega), rfl⟩
  case round =>
    obtain ⟨k, hk, hk1, rfl, HK, rfl⟩ := hrel
    by_cases hlt : k < us.length
    · have d1 : decide (k < us.length) = true := decide_eq_true hlt
      by_cases h100 : k ≤ 100
      · have d2 : decide ((k : Int) ≤ 100) = true := decide_eq_true (by omega)
        have d2' : decide (k ≤ 100) = true := decide_eq_true h100
        obtain ⟨bb, off, rfl, hbb, hp⟩ := H.out (by omega)
        obtain ⟨_, p1, _⟩ := hp k hlt
        clear hp
        have HN : Hid (¬ (Tk.tk us k).2.1.size ≤ 100 → b = false) := Lib.hid (fun hx => by
          cases b with
          | false => rfl
          | true => exact absurd ((HB.out.1 rfl).2 k hlt) hx)
        have HS : Hid ((Tk.tk us k).2.1.size ≤ 100 → ∀ j, j < k + 1 → (Tk.tk us j).2.1.size ≤ 100) := Lib.hid (fun hx j hj => by
          by_cases e : j = k
          · subst e; exact hx
          · exact HK.out j (by omega))
        generalize (Tk.tk us k).2.1 = t at *
        by_cases hz : t.size ≤ 100
        · have d3 : decide (100 < (t.size : Int)) = false := decide_eq_false (by omega)
          have d3' : decide (100 < t.size) = false := decide_eq_false (by omega)
          have HV := Lib.hid (HS.out hz)
          clear HN HS hz
          have hwr : IntKind.i64.wrap ((k : Int) + 1) = (k : Int) + 1 := IntWalk.i64_in _ (by omega)
          go_wp2_with fail
          clear hwr
          go_roundw
          case rel => exact ⟨k + 1, hlt, by omega, by go_num, HV, trivial⟩
          case measure => simp [RowKit.intOf]; omega
        · have d3 : decide (100 < (t.size : Int)) = true := decide_eq_true (by omega)
          have d3' : decide (100 < t.size) = true := decide_eq_true (by omega)
          have HV := Lib.hid (HN.out hz)
          clear HN HS hz
          go_wp2_with fail
          go_ret
          exact ⟨by rw [HV.out]; rfl, rfl⟩
      · have d2 : decide ((k : Int) ≤ 100) = false := decide_eq_false (by omega)
        have d2' : decide (k ≤ 100) = false := decide_eq_false h100
        have d4 : decide ((us.length : Int) ≤ 100) = false := decide_eq_false (by omega)
        have d4' : decide (us.length ≤ 100) = false := decide_eq_false (by omega)
        have HV : Hid (b = false) := Lib.hid (by
          cases b with
          | false => rfl
          | true => have := (HB.out.1 rfl).1; omega)
        clear HB
        go_wp2_with fail
        go_ret
        exact ⟨by rw [HV.out]; rfl, rfl⟩
    · have d1 : decide (k < us.length) = false := decide_eq_false hlt
      by_cases hl : us.length ≤ 100
      · have d4 : decide ((us.length : Int) ≤ 100) = true := decide_eq_true (by omega)
        have d4' : decide (us.length ≤ 100) = true := decide_eq_true (by omega)
        have HV : Hid (b = true) := Lib.hid (HB.out.2 ⟨hl, fun j hj => HK.out j (by omega)⟩)
        clear HB
        go_wp2_with fail
        go_ret
        exact ⟨by rw [HV.out]; rfl, rfl⟩
      · have d4 : decide ((us.length : Int) ≤ 100) = false := decide_eq_false (by omega)
        have d4' : decide (us.length ≤ 100) = false := decide_eq_false (by omega)
        have HV : Hid (b = false) := Lib.hid (by
          cases b with
          | false => rfl
          | true => have := (HB.out.1 rfl).1; omega)
        clear HB
        go_wp2_with fail
        go_ret
        exact ⟨by rw [HV.out]; rfl, rfl⟩
end Go.Proofs.YtgcmjkimiakibaaGreatDoor

/-
  The walks of print's Right and Print.
-/
namespace Go.Proofs.YtgcmjkimiakibaaGreatDoor
open Go.RowKit

namespace Pr
open Ru Tk
/-- the kind of the last one -/
def lastK : Option Int → List PT → Option Int
  | a, [] => a
  | _, t :: r => lastK (some t.1) r
theorem prL_snoc : ∀ (ts : List PT) (a : Option Int) (t : PT), prL a (ts ++ [t]) = prL a ts ++ (sep (lastK a ts) t.1 ++ tokC t)
  | [], a, t => by
    show sep a t.1 ++ (tokC t ++ prL (some t.1) []) = [] ++ (sep a t.1 ++ tokC t)
    rw [show prL (some t.1) [] = [] from by unfold prL; rfl]; simp
  | u :: r, a, t => by
    show sep a u.1 ++ (tokC u ++ prL (some u.1) (r ++ [t])) = (sep a u.1 ++ (tokC u ++ prL (some u.1) r)) ++ (sep (lastK (some u.1) r) t.1 ++ tokC t)
    rw [prL_snoc r (some u.1) t]; simp
theorem lastK_snoc : ∀ (ts : List PT) (a : Option Int) (t : PT), lastK a (ts ++ [t]) = some t.1
  | [], _, _ => rfl
  | _ :: r, _, t => lastK_snoc r _ t
def pt (ps : List PT) (k : Nat) : PT := ps.getD k (0, [], 0)
theorem pt_eq {ps : List PT} {k : Nat} (h : k < ps.length) : pt ps k = ps[k] := by
  unfold pt; rw [List.getD_eq_getElem?_getD, List.getElem?_eq_getElem h]; rfl
theorem take_pt {ps : List PT} {k : Nat} (h : k < ps.length) : ps.take (k + 1) = ps.take k ++ [pt ps k] := by
  rw [List.take_succ_eq_append_getElem h, pt_eq h]
theorem tk_map {ps : List PT} {k : Nat} (h : k < ps.length) : tk (ps.map toTok) k = toTok (pt ps k) := by
  rw [tk_eq (by simpa using h), pt_eq h, List.getElem_map]
/-- one token more -/
theorem prL_first {ps : List PT} (h : 0 < ps.length) : wr (prL none (ps.take 1)) = wr (prL none (ps.take 0)) ++ wr (tokC (pt ps 0)) := by
  rw [take_pt h, prL_snoc, wr_app]
  rfl
theorem prL_next {ps : List PT} {j : Nat} (h : j + 1 < ps.length) : wr (prL none (ps.take (j + 1 + 1))) = wr (prL none (ps.take (j + 1))) ++ ((if apartB (pt ps j).1 (pt ps (j + 1)).1 = true then [47, 42, 42, 47] else []) ++ wr (tokC (pt ps (j + 1)))) := by
  rw [take_pt h, prL_snoc, wr_app, wr_app]
  congr 2
  rw [take_pt (show j < ps.length by omega), lastK_snoc]
  unfold sep apartB
  by_cases h1 : F1 (pt ps j).1 <;> by_cases h2 : F2 (pt ps (j + 1)).1 <;> simp [h1, h2, wr_nil] <;> decide
/-- how long a token's text may be -/
theorem tokC_len {t : PT} (h : One t) : (wr (tokC t)).length ≤ 8 * (wr t.2.1).length + 60 := by
  obtain ⟨k, l, n⟩ := t
  obtain ⟨ho, hk⟩ := h
  simp only at ho hk
  have his : ∀ c ∈ l, Is c := fun c hc => (ho c hc).1
  have h1 := wr_len_ge l
  have hnm : ∀ dim, (wr (nm dim l)).length ≤ 8 * l.length := fun dim => nmT_len dim l his l.length (Nat.le_refl _)
  have hen : (wr (enq l)).length ≤ 8 * l.length := by
    have := enT_len l his l.length (Nat.le_refl _)
    unfold enT at this
    rwa [List.take_length] at this
  have hnc : (wr (nC n)).length ≤ 40 := by
    rw [wr_asc' (fun c hc => by have := nC_chr n c hc; omega)]
    exact nC_len n
  have a := hnm false
  have b := hnm true
  unfold Kd at hk
  unfold tokC
  simp only
  rcases hk with ⟨rfl, _⟩ | ⟨rfl | rfl | rfl | rfl, _⟩ | ⟨rfl | rfl, _⟩ | ⟨rfl | rfl, _⟩ | ⟨rfl, _⟩ | ⟨rfl, _⟩ | ⟨rfl, _⟩ | ⟨rfl, _⟩ | ⟨rfl | rfl | rfl, _⟩
  · show (wr [10]).length ≤ _; simp [show wr [10] = [10] from rfl]
  · show (wr (nm false l)).length ≤ _; omega
  · show (wr (nm false l ++ [40])).length ≤ _; rw [wr_app, List.length_append, show wr [40] = [40] from rfl]; simp; omega
  · show (wr ([64] ++ nm false l)).length ≤ _; rw [wr_app, List.length_append, show wr [64] = [64] from rfl]; simp; omega
  · show (wr ([35] ++ nm false l)).length ≤ _; rw [wr_app, List.length_append, show wr [35] = [35] from rfl]; simp; omega
  · show (wr ([34] ++ (enq l ++ [34]))).length ≤ _; rw [wr_app, wr_app, List.length_append, List.length_append, show wr [34] = [34] from rfl]; simp; omega
  · show (wr ([34] ++ enq l)).length ≤ _; rw [wr_app, List.length_append, show wr [34] = [34] from rfl]; simp; omega
  · show (wr (nC n)).length ≤ _; omega
  · show (wr (nC n ++ [37])).length ≤ _; rw [wr_app, List.length_append, show wr [37] = [37] from rfl]; simp; omega
  · show (wr (nC n ++ nm true l)).length ≤ _; rw [wr_app, List.length_append]; omega
  · show (wr l).length ≤ _; omega
  · show (wr l).length ≤ _; omega
  · show (wr l).length ≤ _; omega
  · show (wr [58]).length ≤ _; simp [show wr [58] = [58] from rfl]
  · show (wr [59]).length ≤ _; simp [show wr [59] = [59] from rfl]
  · show (wr [44]).length ≤ _; simp [show wr [44] = [44] from rfl]
theorem prL_len {ps : List PT} (h : ∀ j, j < ps.length → One (pt ps j)) (hs : ∀ j, j < ps.length → (wr (pt ps j).2.1).length ≤ 100) : ∀ k, k ≤ ps.length → (wr (prL none (ps.take k))).length ≤ 900 * k
  | 0, _ => by rw [List.take_zero]; unfold prL; simp [wr_nil]
  | 1, hk => by
    have a := tokC_len (h 0 (by omega))
    have b := hs 0 (by omega)
    rw [prL_first (by omega), List.length_append, List.take_zero]
    unfold prL
    simp [wr_nil]; omega
  | k + 1 + 1, hk => by
    have ih := prL_len h hs (k + 1) (by omega)
    have a := tokC_len (h (k + 1) (by omega))
    have b := hs (k + 1) (by omega)
    rw [prL_next (by omega), List.length_append, List.length_append]
    have c : (if apartB (pt ps k).1 (pt ps (k + 1)).1 = true then [(47 : Int), 42, 42, 47] else []).length ≤ 4 := by split <;> simp
    omega
end Pr

set_option maxRecDepth 100000 in
theorem rightP_any (us : List Tk.Tok) (hF : Pr.Fair us) (hw : Pr.Wf us) (b : Bool) (hb : b = true ↔ Pr.RightU us) (A : Option Addr) (cap : Nat) (hc : us.length ≤ cap) (w : World) (hA : Ts w w.heap.size A us) (hT : PTab w.heap.size w) :
    Calls Tryz.prog 14 #[.slice A us.length cap] w (Bo b w) := by
  have CK := Lib.hid (kinds_any w)
  have CR : Hid (∀ M c w1, RtAt A us M c w1 → Calls Tryz.prog 20 #[.slice A us.length cap, .map (some M)] w1 (Bo b w1)) := Lib.hid fun M c w1 h => right_any us hF hw b hb A cap hc M c w1 h
  have HA := Lib.hid hA
  have HT := Lib.hid hT
  clear hA hT hF hw hb
  go_enter Tryz.func14, Tryz.ntmps14
  go_wp2_with (first | (go_at_call 19; ((with_reducible refine (CK.out).mono ?_); rintro e w1 ⟨M, c, rfl, K1, hM, hc1, b1⟩; have C2 := Lib.hid (CR.out M c w1 ⟨HA.out.next b1, K1, hM, hc1, HT.out.next b1⟩))) | (go_at_call 20; ((with_reducible refine (C2.out).mono ?_); rintro e w2 ⟨rfl, b2⟩)))
  go_ret
  exact ⟨rfl, below_next b1 b2⟩
set_option maxRecDepth 100000 in
theorem printP_no (us : List Tk.Tok) (hF : Pr.Fair us) (hw : Pr.Wf us) (hno : ¬ Pr.RightU us) (A : Option Addr) (cap : Nat) (hc : us.length ≤ cap) (w : World) (hA : Ts w w.heap.size A us) (hT : PTab w.heap.size w) :
    Calls Tryz.prog 10 #[.slice A us.length cap] w (Sg ⟨#[]⟩ w) := by
  have CK := Lib.hid (kinds_any w)
  have CR : Hid (∀ M c w1, RtAt A us M c w1 → Calls Tryz.prog 20 #[.slice A us.length cap, .map (some M)] w1 (Bo false w1)) := Lib.hid fun M c w1 h => right_any us hF hw false (by simp; exact hno) A cap hc M c w1 h
  have HA := Lib.hid hA
  have HT := Lib.hid hT
  clear hA hT hF hw hno
  go_enter Tryz.func10, Tryz.ntmps10
  go_wp2_with (first | (go_at_call 19; ((with_reducible refine (CK.out).mono ?_); rintro e w1 ⟨M, c, rfl, K1, hM, hc1, b1⟩; have C2 := Lib.hid (CR.out M c w1 ⟨HA.out.next b1, K1, hM, hc1, HT.out.next b1⟩))) | (go_at_call 20; ((with_reducible refine (C2.out).mono ?_); rintro e w2 ⟨rfl, b2⟩)))
  go_ret
  exact ⟨rfl, below_next b1 b2⟩
end Go.Proofs.YtgcmjkimiakibaaGreatDoor

/-
  Plain: tokens in memory that may be, and tokens in characters that may be.
-/
namespace Go.Proofs.YtgcmjkimiakibaaGreatDoor
namespace Pr
open Ru Tk

theorem tk_cons_succ (u : Tok) (us : List Tok) (j : Nat) : tk (u :: us) (j + 1) = tk us j := by
  unfold tk; simp
theorem tk_cons_zero (u : Tok) (us : List Tok) : tk (u :: us) 0 = u := by
  unfold tk; simp
theorem nxK_cons (u : Tok) (us : List Tok) (j : Nat) : nxK (u :: us) (j + 1) = nxK us j := by
  unfold nxK
  rw [tk_cons_succ]
  by_cases h : j < us.length
  · rw [if_pos h, if_pos (by simp; exact h)]
  · rw [if_neg h, if_neg (by simp; omega)]
theorem nxK_zero (ps : List PT) : nxK (ps.map toTok) 0 = nextK ps := by
  cases ps with
  | nil => rfl
  | cons p r => unfold nxK nextK; rw [if_pos (by simp)]; rfl
theorem okAt_cons (u : Tok) (us : List Tok) (j : Nat) : OkAt (u :: us) (j + 1) ↔ OkAt us j := by
  unfold OkAt
  rw [tk_cons_succ, nxK_cons]
theorem stn_iff {k n : Int} {cs : List Int} (h : ∀ c ∈ cs, Is c) (nx : Option Int) : stnB k (str cs) nx = true ↔ Stn (k, cs, n) nx := by
  have e : str cs = ⟨#[92]⟩ ↔ cs = [92] := by
    constructor
    · intro he
      have h1 : wr cs = wr [92] := by rw [← str_bs, he]; rfl
      exact wr_inj h (fun c hc => by rw [List.mem_singleton] at hc; subst hc; unfold Is; omega) h1
    · rintro rfl; rfl
  unfold stnB Stn
  simp only [e]
  by_cases h1 : k = 1
  · subst h1
    rw [if_pos rfl, decide_eq_true_iff]
    constructor
    · intro h2; exact ⟨fun _ => h2, fun h3 => by omega, fun h3 => by omega⟩
    · rintro ⟨h2, _⟩; exact h2 rfl
  · rw [if_neg h1]
    by_cases h7 : k = 7
    · subst h7
      rw [if_pos rfl, decide_eq_true_iff]
      constructor
      · intro h2; exact ⟨fun h3 => by omega, fun _ => h2, fun h3 => by omega⟩
      · rintro ⟨_, h2, _⟩; exact h2 rfl
    · rw [if_neg h7]
      by_cases h11 : k = 11 ∧ cs = [92]
      · rw [if_pos h11, decide_eq_true_iff]
        constructor
        · intro h2; exact ⟨fun h3 => absurd h3 h1, fun h3 => absurd h3 h7, fun _ _ => h2⟩
        · rintro ⟨_, _, h2⟩; exact h2 h11.1 h11.2
      · rw [if_neg h11]
        constructor
        · intro _; exact ⟨fun h3 => absurd h3 h1, fun h3 => absurd h3 h7, fun h3 h4 => absurd ⟨h3, h4⟩ h11⟩
        · intro _; rfl
theorem okAll_iff : ∀ (us : List Tok), (∀ j, j < us.length → OkAt us j) ↔ ∃ ps : List PT, us = ps.map toTok ∧ Right ps
  | [] => ⟨fun _ => ⟨[], rfl, trivial⟩, fun _ j hj => by simp at hj⟩
  | u :: us => by
    have ih := okAll_iff us
    constructor
    · intro h
      obtain ⟨ps, rfl, hr⟩ := ih.1 (fun j hj => (okAt_cons u us j).1 (h (j + 1) (by simp; omega)))
      obtain ⟨h1, h2⟩ := h 0 (by simp)
      rw [tk_cons_zero] at h1 h2
      obtain ⟨p, rfl, hp⟩ := h1
      refine ⟨p :: ps, rfl, hp, ?_, hr⟩
      rw [nxK_cons, nxK_zero] at h2
      obtain ⟨k, cs, n⟩ := p
      exact (stn_iff (fun c hc => (hp.1 c hc).1) _).1 h2
    · rintro ⟨ps, he, hr⟩
      cases ps with
      | nil => simp at he
      | cons p ps =>
        rw [List.map_cons, List.cons.injEq] at he
        obtain ⟨rfl, rfl⟩ := he
        obtain ⟨hp, hs, hr⟩ := hr
        have h2 := ih.2 ⟨ps, rfl, hr⟩
        intro j hj
        cases j with
        | zero =>
          refine ⟨by rw [tk_cons_zero]; exact ⟨p, rfl, hp⟩, ?_⟩
          rw [tk_cons_zero, nxK_cons, nxK_zero]
          obtain ⟨k, cs, n⟩ := p
          exact (stn_iff (fun c hc => (hp.1 c hc).1) _).2 hs
        | succ j => exact (okAt_cons _ _ j).2 (h2 j (by simp at hj ⊢; exact hj))
theorem rightU_iff (us : List Tok) : RightU us ↔ us.length ≤ 16384 ∧ ∃ ps : List PT, us = ps.map toTok ∧ Right ps := by
  unfold RightU
  rw [okAll_iff]
theorem right_pt {ps : List PT} (h : Right ps) : ∀ j, j < ps.length → One (pt ps j) := fun j hj => by
  rw [pt_eq hj]; exact Right.all h _ (List.getElem_mem hj)
end Pr
end Go.Proofs.YtgcmjkimiakibaaGreatDoor

/-
  The walk of print's Print, of tokens that may be.
-/
namespace Go.Proofs.YtgcmjkimiakibaaGreatDoor
open Go.RowKit

/-- what is written of the first k tokens -/
def PrAt (ps : List Pr.PT) (B : Nat) (w2 : World) (v14 : Value) (wr : World) : Prop :=
  ∃ k : Nat, k ≤ ps.length ∧ v14 = .int .i64 k ∧ Hid (Bu wr B (Ru.wr (Pr.prL none (ps.take k)))) ∧ Hid (Below B w2 wr)
set_option maxHeartbeats 4000000 in
set_option maxRecDepth 100000 in
theorem printP_yes (ps : List Pr.PT) (hF : Pr.Fair (ps.map Pr.toTok)) (hw : Pr.Wf (ps.map Pr.toTok)) (hR : Pr.RightU (ps.map Pr.toTok)) (ho : ∀ j, j < ps.length → Pr.One (Pr.pt ps j)) (A : Option Addr) (cap : Nat) (hc : ps.length ≤ cap) (w : World) (hA : Ts w w.heap.size A (ps.map Pr.toTok)) (hT : PTab w.heap.size w) :
    Calls Tryz.prog 10 #[.slice A ps.length cap] w (Sg (Tk.str (Pr.prL none ps)) w) := by
  have hl : (ps.map Pr.toTok).length = ps.length := by simp
  have hm : ps.length ≤ 100 := by have := hF.1; omega
  have CK := Lib.hid (kinds_any w)
  have CR : Hid (∀ M c w1, RtAt A (ps.map Pr.toTok) M c w1 → Calls Tryz.prog 20 #[.slice A ps.length cap, .map (some M)] w1 (Bo true w1)) := Lib.hid fun M c w1 h => by
    have := right_any (ps.map Pr.toTok) hF hw true (by simp; exact hR) A cap (by omega) M c w1 h
    rwa [hl] at this
  have HA := Lib.hid hA
  have HT := Lib.hid hT
  have HO := Lib.hid ho
  have hsz : ∀ j, j < ps.length → (Tk.str (Pr.pt ps j).2.1).size ≤ 100 := fun j hj => by
    have := hF.2 j (by omega)
    rw [Pr.tk_map hj] at this
    exact this
  have HS := Lib.hid hsz
  have HL := Lib.hid (Pr.prL_len ho (fun j hj => by
    have := hsz j hj
    rw [← Ru.bs_len, Pr.str_bs] at this
    exact this))
  have HI : Hid (∀ j, j < ps.length → I64 (Pr.pt ps j).1) := Lib.hid fun j hj => by
    have := (hw j (by omega)).1
    rw [Pr.tk_map hj] at this
    exact this
  clear hA hT hF hw hR ho hsz hl
  go_enter Tryz.func10, Tryz.ntmps10
  go_wp2_with (first | (go_at_call 19; ((with_reducible refine (CK.out).mono ?_); rintro e w1 ⟨M, c, rfl, K1, hM, hc1, b1⟩; have HR1 := Lib.hid (RtAt.mk (A := A) (us := ps.map Pr.toTok) (HA.out.next b1) K1 hM hc1 (HT.out.next b1)); have C2 := Lib.hid (CR.out M c w1 HR1.out); clear CK CR K1 hM hc1)) | (go_at_call 20; ((with_reducible refine (C2.out).mono ?_); rintro e w2 ⟨rfl, b2⟩; have HR2 := Lib.hid (HR1.out.next b2); have HB2 := Lib.hid (below_next b1 b2); clear C2 HR1 b1 b2 HA HT)))
  have HB0 : Hid (Bu (w2.alloc (.cells #[.pointer none, .slice none 0 0] 52)) w2.heap.size []) := Lib.hid (Bu.new w2)
  go_loopw [14] (PrAt ps w2.heap.size w2) (fun v14 _ => ps.length - (RowKit.intOf v14).toNat)
  case atStart => exact ⟨0, Nat.zero_le _, rfl, HB0, Lib.hid ((Below.refl _ _).alloc (Nat.le_refl _) _)⟩
  case round =>
    clear HB0
    obtain ⟨k, hk, rfl, HBu, HB⟩ := hrel
    by_cases hlt : k < ps.length
    · have HR := Lib.hid (HR2.out.next HB.out)
      obtain ⟨bb, off, rfl, hbb, hp⟩ := HR.out.ts (by simp; omega)
      have hpk := hp k (by simpa using hlt)
      rw [Pr.tk_map hlt] at hpk
      obtain ⟨p0, p1, p2⟩ : wr.cell? ⟨bb, off + k * 3, none⟩ = some (.int .i64 (Pr.pt ps k).1) ∧ wr.cell? ⟨bb, off + k * 3 + 1, none⟩ = some (.string (Tk.str (Pr.pt ps k).2.1)) ∧ wr.cell? ⟨bb, off + k * 3 + 2, none⟩ = some (.int .i64 (Pr.pt ps k).2.2) := hpk
      have hwl := HB.out.size
      have hbl := HBu.out.lt
      have hln := HL.out k hk
      have hok := HO.out k hlt
      have hs1 := HS.out k hlt
      have hi1 := HI.out k hlt
      have hlen1 : (Ru.wr (Pr.tokC (Pr.pt ps k))).length ≤ 100000 := by
        have h1 := Pr.tokC_len hok
        rw [← Ru.bs_len, Pr.str_bs] at hs1
        omega
      -- the token in a block of its own
      obtain ⟨W0, hW⟩ : ∃ W0, W0 = wr.alloc (.cells #[.int .i64 (Pr.pt ps k).1, .string (Tk.str (Pr.pt ps k).2.1), .int .i64 (Pr.pt ps k).2.2] 32) := ⟨_, rfl⟩
      have hb0 : Below wr.heap.size wr W0 := by rw [hW]; exact (Below.refl _ _).alloc (Nat.le_refl _) _
      have k0 : W0.heap[wr.heap.size]? = some (.cells #[.int .i64 (Pr.pt ps k).1, .string (Tk.str (Pr.pt ps k).2.1), .int .i64 (Pr.pt ps k).2.2] 32 (0, 0)) := by rw [hW]; exact heap_alloc_new wr _
      obtain ⟨q0, q1, q2⟩ := tok3_cells k0
      have HK0 := Lib.hid k0
      have HBu0 : Hid (Bu W0 w2.heap.size (Ru.wr (Pr.prL none (ps.take k)))) := Lib.hid (HBu.out.below hb0)
      have HBw0 : Hid (Below w2.heap.size w2 W0) := Lib.hid (HB.out.trans (hb0.mono hwl))
      have HR0 := Lib.hid (HR.out.next hb0)
      clear hb0 k0 HBu HR
      have hcb : c ≠ w2.heap.size := by have := HR2.out.cl; omega
      have CW : Hid (∀ l W, Bu W w2.heap.size l → l.length ≤ 1000000 → Below w2.heap.size w2 W → Calls Tryz.prog 23 #[kindAt c (Pr.pt ps k).1, .pointer (some ⟨w2.heap.size, 0, none⟩), .agg #[.int .i64 (Pr.pt ps k).1, .string (Tk.str (Pr.pt ps k).2.1), .int .i64 (Pr.pt ps k).2.2]] W (Wrote w2.heap.size (l ++ Ru.wr (Pr.tokC (Pr.pt ps k))) W)) := Lib.hid fun l W h1 h2 h3 => write_at c (Pr.pt ps k) hok w2.heap.size l W h1 hcb (HR2.out.next h3).k.n (HR2.out.t.below h3) h2 (by omega)
      have CL : Hid (∀ W, Below w2.heap.size w2 W → (Instr.lookup 47 (.map (some M)) (.int .i64 (Pr.pt ps k).1) false).run Tryz.prog W = .ok (kindAt c (Pr.pt ps k).1) W) := Lib.hid fun W h => kinds_look (HR2.out.next h).k _ hi1
      by_cases hk0 : k = 0
      · -- the first one
        have HP : Hid (Ru.wr (Pr.prL none (ps.take (k + 1))) = Ru.wr (Pr.prL none (ps.take k)) ++ Ru.wr (Pr.tokC (Pr.pt ps k))) := Lib.hid (by subst hk0; exact Pr.prL_first hlt)
        have hd0 : decide (0 < k) = false := decide_eq_false (by omega)
        have HK := Lib.hid hk0
        clear HO HS HL HI hp hk0 hok hs1
        generalize Pr.pt ps k = p at *
        generalize Tk.str p.2.1 = t at *
        generalize kindAt c p.1 = kv at *
        go_upto_region 8 with fail
        rw [← hW]
        clear hW
        go_quiet (fail)
        have HBu3 : Hid (Bu (W0.drewN nq) w2.heap.size (Ru.wr (Pr.prL none (ps.take k)))) := Lib.hid (HBu0.out.below (below_drewN (Below.refl _ _) nq))
        have HK3 : Hid ((W0.drewN nq).heap[wr.heap.size]? = some (.cells #[.int .i64 p.1, .string t, .int .i64 p.2.2] 32 (0, 0))) := Lib.hid HK0.out
        have HBw3 := Lib.hid (below_drewN HBw0.out nq)
        have hlk := CL.out _ HBw3.out
        have C1 := Lib.hid (CW.out _ _ HBu3.out (by omega) HBw3.out)
        obtain ⟨r0, r1, r2⟩ := tok3_cells HK3.out
        generalize W0.drewN nq = W3 at *
        go_wp2_with (go_at_call 23; ((with_reducible refine (C1.out).mono ?_); rintro e w4 ⟨rfl, U4, b4⟩))
        go_roundw
        case rel => exact ⟨k + 1, by omega, by go_num, Lib.hid (by rw [HP.out]; exact U4.bu), Lib.hid (HBw3.out.trans b4.1)⟩
        case measure => simp [RowKit.intOf]; omega
      · obtain ⟨j, rfl⟩ : ∃ j, k = j + 1 := ⟨k - 1, by omega⟩
        have hp1 := hp j (by simp; omega)
        rw [Pr.tk_map (show j < ps.length by omega)] at hp1
        have hp2 : W0.cell? ⟨bb, off + j * 3, none⟩ = some (.int .i64 (Pr.pt ps j).1) := by
          rw [hW, World.cell?_alloc_lt _ _ _ hbb]
          exact hp1.1
        have HP := Lib.hid (Pr.prL_next hlt)
        clear HO HS HL HI hp hp1 hk0 hok hs1
        generalize Pr.pt ps (j + 1) = p at *
        generalize Pr.pt ps j = pj at *
        generalize Tk.str p.2.1 = t at *
        generalize kindAt c p.1 = kv at *
        have CA := Lib.hid (fun W => apart_any pj.1 p.1 W)
        have hwr : IntKind.i64.wrap ((j : Int) + 1 - 1) = (j : Int) := by rw [show (j : Int) + 1 - 1 = (j : Int) by omega]; exact IntWalk.i64_in _ (by omega)
        have hwr2 : IntKind.i64.wrap (j : Int) = (j : Int) := IntWalk.i64_in _ (by omega)
        cases hap : Pr.apartB pj.1 p.1
        · rw [hap] at CA
          go_upto_region 8 with fail
          rw [← hW]
          clear hW
          go_quiet ((go_at_call 21; exact Calls.quiet_of_same ((CA.out _).mono fun _ _ h => ⟨h.1, h.2.symm⟩)))
          have HBu3 : Hid (Bu (W0.drewN nq) w2.heap.size (Ru.wr (Pr.prL none (ps.take (j + 1))))) := Lib.hid (HBu0.out.below (below_drewN (Below.refl _ _) nq))
          have HK3 : Hid ((W0.drewN nq).heap[wr.heap.size]? = some (.cells #[.int .i64 p.1, .string t, .int .i64 p.2.2] 32 (0, 0))) := Lib.hid HK0.out
          have HBw3 := Lib.hid (below_drewN HBw0.out nq)
          have hlk := CL.out _ HBw3.out
          have C1 := Lib.hid (CW.out _ _ HBu3.out (by omega) HBw3.out)
          obtain ⟨r0, r1, r2⟩ := tok3_cells HK3.out
          generalize W0.drewN nq = W3 at *
          have HA2 := Lib.hid hap
          clear hwr hwr2 hap
          go_wp2_with (go_at_call 23; ((with_reducible refine (C1.out).mono ?_); rintro e w4 ⟨rfl, U4, b4⟩))
          go_roundw
          case rel => exact ⟨j + 1 + 1, by omega, by go_num, Lib.hid (by rw [HP.out, HA2.out, if_neg (by decide), List.nil_append]; exact U4.bu), Lib.hid (HBw3.out.trans b4.1)⟩
          case measure => simp [RowKit.intOf]; omega
        · rw [hap] at CA
          go_upto_region 8 with fail
          rw [← hW]
          clear hW
          go_quiet ((go_at_call 21; exact Calls.quiet_of_same ((CA.out _).mono fun _ _ h => ⟨h.1, h.2.symm⟩)))
          have HBu3 : Hid (Bu (W0.drewN nq) w2.heap.size (Ru.wr (Pr.prL none (ps.take (j + 1))))) := Lib.hid (HBu0.out.below (below_drewN (Below.refl _ _) nq))
          have HK3 : Hid ((W0.drewN nq).heap[wr.heap.size]? = some (.cells #[.int .i64 p.1, .string t, .int .i64 p.2.2] 32 (0, 0))) := Lib.hid HK0.out
          have HBw3 := Lib.hid (below_drewN HBw0.out nq)
          have hlk := CL.out _ HBw3.out
          have C1 := Lib.hid (writeString_any w2.heap.size _ ⟨#[47, 42, 42, 47]⟩ _ HBu3.out (by omega) (by decide))
          obtain ⟨r0, r1, r2⟩ := tok3_cells HK3.out
          generalize W0.drewN nq = W3 at *
          have HA2 := Lib.hid hap
          clear hwr hwr2 hap hlk
          go_wp2_with (first | (go_at_call 22; ((with_reducible refine (C1.out).mono ?_); rintro e w4 ⟨rfl, U4, b4⟩; have HBw4 := Lib.hid (HBw3.out.trans b4.1); have hlk4 := CL.out _ HBw4.out; have C2 := Lib.hid (CW.out _ _ U4.bu (by rw [List.length_append, show (Ru.bs ⟨#[47, 42, 42, 47]⟩).length = 4 from rfl]; omega) HBw4.out); obtain ⟨s0, s1, s2⟩ := tok3_cells (b4.block HK3.out (by omega) (by decide)))) | (go_at_call 23; ((with_reducible refine (C2.out).mono ?_); rintro e w5 ⟨rfl, U5, b5⟩)))
          go_roundw
          case rel => exact ⟨j + 1 + 1, by omega, by go_num, Lib.hid (by rw [HP.out, HA2.out, if_pos rfl, ← List.append_assoc]; exact U5.bu), Lib.hid (HBw4.out.trans b5.1)⟩
          case measure => simp [RowKit.intOf]; omega
    · obtain rfl : k = ps.length := by omega
      have hBu := HBu.out
      rw [List.take_length] at hBu
      have CS := Lib.hid (string_any w2.heap.size _ wr hBu)
      clear HBu hBu HO HS HL HI
      go_wp2_with (go_at_call 24; ((with_reducible refine (CS.out).mono ?_); rintro e w5 ⟨rfl, b5⟩))
      go_ret
      exact ⟨rfl, below_next HB2.out (HB.out.trans b5.1)⟩
end Go.Proofs.YtgcmjkimiakibaaGreatDoor

/-
  The walk of the law's awake.
-/
namespace Go.Proofs.YtgcmjkimiakibaaGreatDoor
open Go.RowKit

namespace Pr
open Ru Tk
def ps0 : List PT := [(2, [49, 97], 0), (2, [98], 0)]
def us0 : List Tok := [(2, ⟨#[49, 97]⟩, 0), (2, ⟨#[98]⟩, 0)]
def p1 : PT := (10, [101, 49], 1500)
theorem us0_eq : ps0.map toTok = us0 := rfl
theorem ok_small {l : List Int} (h : ∀ c ∈ l, 0 < c ∧ c < 128) : Ok l := fun c hc => by
  have := h c hc
  exact ⟨by unfold Is; omega, by omega⟩
theorem ps0_right : Right ps0 := by
  refine ⟨⟨ok_small (by simp), ?_⟩, ?_, ⟨ok_small (by simp), ?_⟩, ?_, trivial⟩
  · unfold Kd; simp
  · unfold Stn; simp
  · unfold Kd; simp
  · unfold Stn; simp
theorem p1_one : One p1 := ⟨ok_small (by simp [p1]), by unfold Kd p1; simp; decide⟩
theorem us0_right : RightU us0 := (rightU_iff us0).2 ⟨by decide, ps0, rfl, ps0_right⟩
theorem us0_fair : Fair us0 := by
  refine ⟨by decide, fun j hj => ?_⟩
  have : j = 0 ∨ j = 1 := by simp [us0] at hj; omega
  rcases this with rfl | rfl <;> decide
theorem us0_wf : Wf us0 := by
  intro j hj
  have : j = 0 ∨ j = 1 := by simp [us0] at hj; omega
  rcases this with rfl | rfl <;> exact ⟨by unfold I64; decide, by unfold I64; decide⟩
theorem text0 : str (prL none ps0) = ⟨#[92, 51, 49, 32, 97, 47, 42, 42, 47, 98]⟩ := by decide +kernel
theorem text1 : str (tokC p1) = ⟨#[49, 46, 53, 92, 54, 53, 32, 49]⟩ := by decide +kernel
end Pr
theorem us0_ts (w : World) (E : TypeId) : Ts (w.alloc (.cells #[.int .i64 2, .string ⟨#[49, 97]⟩, .int .i64 0, .int .i64 2, .string ⟨#[98]⟩, .int .i64 0] E)) (w.alloc (.cells #[.int .i64 2, .string ⟨#[49, 97]⟩, .int .i64 0, .int .i64 2, .string ⟨#[98]⟩, .int .i64 0] E)).heap.size (some ⟨w.heap.size, 0, none⟩) Pr.us0 := fun _ => by
  refine ⟨w.heap.size, 0, rfl, by simp, fun j hj => ?_⟩
  have : j = 0 ∨ j = 1 := by simp [Pr.us0] at hj; omega
  rcases this with rfl | rfl
  · refine ⟨?_, ?_, ?_⟩ <;> (rw [World.cell?_alloc_mark]; rfl)
  · refine ⟨?_, ?_, ?_⟩ <;> (rw [World.cell?_alloc_mark]; rfl)
set_option maxHeartbeats 4000000 in
set_option maxRecDepth 100000 in
theorem awake_any (w : World) (hT : PTab w.heap.size w) : Calls Tryz.prog 8 #[] w (Bo true w) := by
  obtain ⟨W0, hW⟩ : ∃ W0, W0 = w.alloc (.cells #[.int .i64 2, .string ⟨#[49, 97]⟩, .int .i64 0, .int .i64 2, .string ⟨#[98]⟩, .int .i64 0] 32) := ⟨_, rfl⟩
  have hb0 : Below w.heap.size w W0 := by rw [hW]; exact (Below.refl _ _).alloc (Nat.le_refl _) _
  have hts : Ts W0 W0.heap.size (some ⟨w.heap.size, 0, none⟩) Pr.us0 := by rw [hW]; exact us0_ts w _
  have HB0 := Lib.hid hb0
  have HT0 := Lib.hid (hT.next hb0)
  have HTs := Lib.hid hts
  have C1 : Hid (Calls Tryz.prog 10 #[.slice (some ⟨w.heap.size, 0, none⟩) 2 2] W0 (Sg ⟨#[92, 51, 49, 32, 97, 47, 42, 42, 47, 98]⟩ W0)) := Lib.hid (by
    have h := printP_yes Pr.ps0 Pr.us0_fair Pr.us0_wf Pr.us0_right (Pr.right_pt Pr.ps0_right) (some ⟨w.heap.size, 0, none⟩) 2 (by decide) W0 hts HT0.out
    rw [Pr.text0] at h
    exact h)
  have C2 : Hid (∀ W, Below W0.heap.size W0 W → Calls Tryz.prog 14 #[.slice (some ⟨w.heap.size, 0, none⟩) 2 2] W (Bo true W)) := Lib.hid fun W h => rightP_any Pr.us0 Pr.us0_fair Pr.us0_wf true (by simp [Pr.us0_right]) _ 2 (by decide) W (HTs.out.next h) (HT0.out.next h)
  have C3 : Hid (∀ W, Below W0.heap.size W0 W → Calls Tryz.prog 13 #[.agg #[.int .i64 10, .string ⟨#[101, 49]⟩, .int .i64 1500]] W (Sg ⟨#[49, 46, 53, 92, 54, 53, 32, 49]⟩ W)) := Lib.hid fun W h => by
    have := token_yes Pr.p1 Pr.p1_one (by unfold I64; decide) (by decide) W (HT0.out.next h)
    rw [Pr.text1] at this
    exact this
  clear hT hb0 hts
  go_enter Tryz.func8, Tryz.ntmps8
  go_upto_region 2 with fail
  rw [← hW]
  clear hW
  go_wp2_with (first | (go_at_call 10; ((with_reducible refine (C1.out).mono ?_); rintro e w1 ⟨rfl, b1⟩; have HB1 := Lib.hid b1; clear b1)) | (go_at_call 14; ((with_reducible refine (C2.out _ HB1.out).mono ?_); rintro e w2 ⟨rfl, b2⟩; have HB2 := Lib.hid (below_next HB1.out b2); clear b2)) | (go_at_call 13; ((with_reducible refine (C3.out _ HB2.out).mono ?_); rintro e w3 ⟨rfl, b3⟩; have HB3 := Lib.hid (below_next HB2.out b3); clear b3)))
  go_ret
  exact ⟨rfl, below_next HB0.out HB3.out⟩
end Go.Proofs.YtgcmjkimiakibaaGreatDoor
