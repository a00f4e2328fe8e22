/-
  The walks of the writers of strings.Builder, a builder that the call has made.
-/
import Derived.Test.YtgcmjkimiakibaaGreatDoorGaa
import Derived.Test.YtgcmjkimiakibaaGreatDoorGaf
import Derived.Lib.OthersKept
import Derived.Lib.FrozenHead2
import Derived.Lib.Builder
import Derived.Shelf.Strings.BuilderX
import Derived.Shelf.Unicode.ValidAny
import Derived.Shelf.Spec.TrailingZeros
import Derived.Lib.TrailingZeros
import Derived.Test.YtgcmjkimiakibaaGreatDoorGac
import Derived.OneCell
import Derived.Laws.BytesArg
import Derived.Laws.Bits64b
import Derived.LoopTactic
import Derived.Test.YtgcmjkimiakibaaGreatDoorGab
import Derived.Lib.LaidU8T
import Derived.Test.YtgcmjkimiakibaaGreatDoorGae
import Derived.Lib.Hide
import Derived.Lib.AppendIntMem
import Derived.Lib.SmallJoins
import Derived.Lib.ItoaLen
namespace Go.Proofs.YtgcmjkimiakibaaGreatDoor
open Go.RowKit

/-- the builder at block b holds these bytes -/
def Bu (w : World) (b : Nat) (l : List Int) : Prop := Lib.IsBuilderF 52 5 b b (nums .u8 l) w
/-- nothing has turned but the builder at block b, and rows of bytes -/
def Bw (b : Nat) (w w' : World) : Prop := Below b w w' ∧ Lib.OthersKept 5 (some b) w w'
theorem Bw.refl (b : Nat) (w : World) : Bw b w w := ⟨Below.refl _ _, Lib.OthersKept.refl _ _ _⟩
theorem Bw.trans {b : Nat} {w w1 w2 : World} (h : Bw b w w1) (k : Bw b w1 w2) : Bw b w w2 := ⟨h.1.trans k.1, h.2.trans k.2⟩
theorem Bw.drew {b : Nat} {w w1 : World} (h : Bw b w w1) : Bw b w w1.drew := ⟨h.1.drew, h.2.drew⟩
theorem Bw.alloc {b : Nat} {w w1 : World} (h : Bw b w w1) (hb : b ≤ w1.heap.size) (o : Obj) : Bw b w (w1.alloc o) := ⟨h.1.alloc hb o, h.2.alloc o⟩
theorem Bu.lt {w : World} {b : Nat} {l : List Int} (h : Bu w b l) : b < w.heap.size := by
  rcases h with h | h
  · exact Lib.BuilderAtF.lt h
  · exact Lib.BuilderAtF.lt h
theorem Bu.alloc {w : World} {b : Nat} {l : List Int} (h : Bu w b l) (o : Obj) : Bu (w.alloc o) b l := Lib.IsBuilderF.alloc h o
theorem Bu.drew {w : World} {b : Nat} {l : List Int} (h : Bu w b l) : Bu w.drew b l := h
theorem Bu.new (w : World) : Bu (w.alloc (.cells #[.pointer none, .slice none 0 0] 52)) w.heap.size [] := Lib.IsBuilderF.of (Lib.fresh_isBuilder 52 5 w)
theorem str_cells (s : ByteArray) : Lib.strCells s = nums .u8 (Ru.bs s) := by
  unfold Lib.strCells nums Ru.bs
  rw [List.map_map]; rfl

theorem size_builder : (Tryz.prog.info? 52).map (·.size) = some 2 := by kernel_rfl
theorem lies_builder : liesAt Tryz.prog Tryz.prog.depth 52 (2 / Tryz.prog.cellsOf 52) 0 52 1 = true := by kernel_rfl
theorem info_byte : (Tryz.prog.info? 5).map (fun i => (i.zero, i.size, i.bytes)) = some (some (.int .u8 0), 1, 1) := by kernel_rfl
theorem noescape_run (w : World) (a : Value) : (callFunc 87 #[a]).run Tryz.prog w = .ok (.value a) w := by
  rw [run_callFunc_extern Tryz.func87 (by kernel_rfl) (by kernel_rfl) (by kernel_rfl) (e := Extern.AbiNoEscape.same) (by kernel_rfl), Lib.run_noEscape]
  rfl

/-- a builder that is used already, or made to be -/
def Used (w : World) (b : Nat) (l : List Int) : Prop := Lib.BuilderAtF 52 5 b b (.pointer (some ⟨b, 0, none⟩)) (nums .u8 l) w
theorem Used.bu {w : World} {b : Nat} {l : List Int} (h : Used w b l) : Bu w b l := .inr h

set_option maxRecDepth 100000 in
theorem copyCheck_any (b : Nat) (l : List Int) (w : World) (h : Bu w b l) :
    Calls Tryz.prog 61 #[.pointer (some ⟨b, 0, none⟩)] w fun e w' => e = .returned (.tuple #[]) ∧ Used w' b l ∧ Bw b w w' := by
  obtain ⟨j, hj, hjs⟩ := Option.map_eq_some_iff.1 size_builder
  rcases h with h | h
  · have c0 := h.cell0
    have f0 := h.frozen0
    have e1 := Lib.run_to_unsafe w ⟨b, 0, none⟩ Tryz.underlying50 Tryz.underlying100 hj (by rw [hjs]; decide) h.shape (Nat.zero_lt_succ 1)
    have e2 := noescape_run w (.pointer (some ⟨b, 0, none⟩))
    have e3 := Lib.run_from_unsafe w ⟨b, 0, none⟩ Tryz.underlying100 Tryz.underlying50 hj h.shape lies_builder
    have hu : Used (w.setCell ⟨b, 0, none⟩ (.pointer (some ⟨b, 0, none⟩))) b l ∧ Bw b w (w.setCell ⟨b, 0, none⟩ (.pointer (some ⟨b, 0, none⟩))) :=
      ⟨h.used _, (Below.refl b w).setCell (p := ⟨b, 0, none⟩) (Nat.le_refl _) _, (Lib.OthersKept.refl _ _ w).setCell ⟨b, 0, none⟩ rfl _⟩
    have HU := Lib.hid hu
    clear hu h
    go_enter Tryz.func61, Tryz.ntmps61
    go_wp2_with fail
    go_end0
    exact ⟨rfl, HU.out⟩
  · have c0 := h.cell0
    have hq : (binOp .neq 50 (.pointer (some ⟨b, 0, none⟩)) (.pointer (some ⟨b, 0, none⟩))).run Tryz.prog w = .ok (.bool false) w := Lib.run_neq_ptr_same w ⟨b, 0, none⟩ Tryz.underlying50 hj
    have HU := Lib.hid h
    clear h
    go_enter Tryz.func61, Tryz.ntmps61
    go_wp2_with fail
    go_end0
    exact ⟨rfl, HU.out, Bw.refl _ _⟩

/-- what a walk needs of a builder that is used -/
theorem Used.parts {w : World} {b : Nat} {l : List Int} (h : Used w b l) : ∃ ao cap, w.heap[b]? = some (.cells #[.pointer (some ⟨b, 0, none⟩), .slice ao l.length cap] 52 (0, 0)) ∧ w.ownsRowF b 5 1 (.slice ao l.length cap) l.length (nums .u8 l) ∧ (Value.slice ao l.length cap).ownBlock ≠ some b ∧ b < w.heap.size := by
  have hlt := Lib.BuilderAtF.lt h
  obtain ⟨_, v, hbk, hown, hne⟩ := h
  have e : (nums .u8 l).length = l.length := nums_len _ _
  rw [e] at hown
  obtain ⟨ao, cap, rfl⟩ : ∃ ao cap, v = .slice ao l.length cap := by
    rcases hown.2 with ⟨hv, h0⟩ | ⟨g, cap, cur, fz, hv, _⟩
    · exact ⟨none, 0, by rw [hv, h0]⟩
    · exact ⟨_, _, hv⟩
  exact ⟨ao, cap, hbk, hown, hne, hlt⟩
theorem buf_cells {w : World} {b : Nat} {v : Value} (h : w.heap[b]? = some (.cells #[.pointer (some ⟨b, 0, none⟩), v] 52 (0, 0))) :
    w.cell? ⟨b, 0, none⟩ = some (.pointer (some ⟨b, 0, none⟩)) ∧ w.cell? ⟨b, 1, none⟩ = some v ∧ w.frozen? ⟨b, 1, none⟩ = false := by
  refine ⟨?_, ?_, ?_⟩ <;> simp [World.cell?, World.frozen?, h]
/-- behind an append: the builder's block as it was -/
theorem buf_kept {w1 w2 : World} {b : Nat} {o : Option Obj} {v : Value} (hbk : w1.heap[b]? = some (.cells #[.pointer (some ⟨b, 0, none⟩), v] 52 (0, 0))) (hlt : b < w1.heap.size) (hne : v.ownBlock ≠ some b)
    (hg : match o with | none => w1.grownBy w2 v.ownBlock | some o => (w1.alloc o).grownBy w2 v.ownBlock) : w2.heap[b]? = some (.cells #[.pointer (some ⟨b, 0, none⟩), v] 52 (0, 0)) := by
  cases o with
  | none => rw [hg.block b hlt (fun e => hne e.symm)]; exact hbk
  | some o => rw [hg.block b (by simp; omega) (fun e => hne e.symm), Lib.alloc_old w1 _ b hlt]; exact hbk
/-- the buffer laid into the builder again -/
theorem buf_put {w w1 w2 : World} {b : Nat} {l m : List Int} {o : Option Obj} {v v' : Value} (hu : Bw b w w1) (hw : b ≤ w.heap.size) (hown : w1.ownsRowF b 5 1 v l.length (nums .u8 l))
    (hb2 : w2.heap[b]? = some (.cells #[.pointer (some ⟨b, 0, none⟩), v] 52 (0, 0))) (hown' : w2.ownsRowF b 5 1 v' (l.length + m.length) (nums .u8 l ++ nums .u8 m))
    (hg : match o with | none => w1.grownBy w2 v.ownBlock | some o => (w1.alloc o).grownBy w2 v.ownBlock) :
    Used (w2.setCell ⟨b, 1, none⟩ v') b (l ++ m) ∧ Bw b w (w2.setCell ⟨b, 1, none⟩ v') := by
  have hs := hu.1.size
  refine ⟨?_, ?_⟩
  · refine Lib.BuilderAtF.put (Nat.le_refl _) hb2 ?_ (by decide)
    rw [nums_app, List.length_append, nums_len, nums_len]
    exact hown'
  · cases o with
    | none => exact ⟨(hu.1.grown hg (by omega) (fun k hk => (hown.lt k hk).1)).setCell (p := ⟨b, 1, none⟩) (Nat.le_refl _) _, (hu.2.grown hg (Lib.ownsRowF_kind hown)).setCell ⟨b, 1, none⟩ rfl _⟩
    | some o => exact ⟨((hu.1.alloc (by omega) o).grown hg (by simp; omega) (fun k hk => (hown.lt k hk).1)).setCell (p := ⟨b, 1, none⟩) (Nat.le_refl _) _, ((hu.2.alloc o).grown hg (Lib.ownsRowF_kind (hown.alloc o))).setCell ⟨b, 1, none⟩ rfl _⟩

theorem row_some {w : World} {b n : Nat} {E : TypeId} {v : Value} {xs : List Value} (h : w.ownsRowF b E 1 v n xs) (h0 : 0 < n) : ∃ g cap, v = .slice (some ⟨g, 0, none⟩) n cap := by
  rcases h.2 with ⟨_, h1⟩ | ⟨g, cap, cur, fz, hv, _⟩
  · omega
  · exact ⟨g, cap, hv⟩
theorem row_any {w : World} {b n : Nat} {E : TypeId} {v : Value} {xs : List Value} (h : w.ownsRowF b E 1 v n xs) : ∃ ao n' cap, v = .slice ao n' cap := by
  rcases h.2 with ⟨hv, _⟩ | ⟨g, cap, cur, fz, hv, _⟩
  · exact ⟨_, _, _, hv⟩
  · exact ⟨_, _, _, hv⟩

set_option maxHeartbeats 1000000 in
set_option maxRecDepth 100000 in
theorem writeByte_any (b : Nat) (l : List Int) (c : Int) (w : World) (h : Bu w b l) (hm : l.length ≤ 100000000) :
    Calls Tryz.prog 101 #[.pointer (some ⟨b, 0, none⟩), .int .u8 c] w fun e w' => e = .returned .nilIface ∧ Used w' b (l ++ [c]) ∧ Bw b w w' := by
  obtain ⟨i0, hi, hz0, hz1, hz2⟩ := info_parts info_byte
  have hw := h.lt
  have CC := Lib.hid (copyCheck_any b l w h)
  clear h
  go_enter Tryz.func101, Tryz.ntmps101
  go_wp2_with (first | (go_at_call 61; ((with_reducible refine (CC.out).mono ?_); rintro e w1 ⟨rfl, U, hb1⟩; obtain ⟨ao, cap, hbk, hown, hne, hlt⟩ := U.parts; obtain ⟨c0, c1, _⟩ := buf_cells hbk; have HO := Lib.hid hown; have HN := Lib.hid hne; have HK := Lib.hid hbk; clear hown hne hbk U CC)) | (at_builtin; refine wpList_append_ownF _ rfl _ _ 28 rfl b 5 i0 (.int .u8 0) 1 1 Tryz.underlying28 hi hz0 hz1 hz2 rfl (by decide) _ _ _ rfl (HO.out.alloc _) ⟨w1.heap.size, 0, none⟩ 1 1 [.int .u8 c] rfl rfl (one_cell w1 (.int .u8 c)) (one_ok c) (by unfold maxLen; omega) (by omega) (alloc_size (Nat.le_of_lt hlt) _) ?_; intro v' w2 hown' hgrow _; have hb2 := buf_kept (o := some _) HK.out hlt HN.out hgrow; obtain ⟨d0, d1, d2⟩ := buf_cells hb2; have HP := Lib.hid (buf_put (m := [c]) (o := some _) hb1 (Nat.le_of_lt hw) HO.out hb2 hown' hgrow); obtain ⟨g, cap', rfl⟩ := row_some hown' (by omega); clear hown' hgrow hb2 hb1 c0 c1 HO HN HK))
  go_ret
  exact ⟨rfl, HP.out⟩

set_option maxHeartbeats 1000000 in
set_option maxRecDepth 100000 in
theorem writeString_any (b : Nat) (l : List Int) (s : ByteArray) (w : World) (h : Bu w b l) (hm : l.length ≤ 100000000) (hs : s.size ≤ 100000000) :
    Calls Tryz.prog 22 #[.pointer (some ⟨b, 0, none⟩), .string s] w fun e w' => e = .returned (.tuple #[.int .i64 s.size, .nilIface]) ∧ Used w' b (l ++ Ru.bs s) ∧ Bw b w w' := by
  obtain ⟨i0, hi, hz0, hz1, hz2⟩ := info_parts info_byte
  have hw := h.lt
  have CC := Lib.hid (copyCheck_any b l w h)
  clear h
  go_enter Tryz.func22, Tryz.ntmps22
  go_wp2_with (first | (go_at_call 61; ((with_reducible refine (CC.out).mono ?_); rintro e w1 ⟨rfl, U, hb1⟩; obtain ⟨ao, cap, hbk, hown, hne, hlt⟩ := U.parts; obtain ⟨c0, c1, _⟩ := buf_cells hbk; have HO := Lib.hid hown; have HN := Lib.hid hne; have HK := Lib.hid hbk; clear hown hne hbk U CC)) | (at_builtin; refine Lib.wpList_append_own_stringF _ rfl _ _ 28 9 rfl b 5 i0 Tryz.underlying28 Tryz.underlying9 hi hz0 hz1 hz2 _ _ _ rfl HO.out s rfl (by unfold maxLen; omega) (by omega) (Nat.le_of_lt hlt) ?_; intro v' w2 hown' hgrow _; have hb2 := buf_kept (o := none) HK.out hlt HN.out hgrow; obtain ⟨d0, d1, d2⟩ := buf_cells hb2; rw [str_cells, ← Ru.bs_len] at hown'; have HP := Lib.hid (buf_put (m := Ru.bs s) (o := none) hb1 (Nat.le_of_lt hw) HO.out hb2 hown' hgrow); obtain ⟨ao', n', cap', rfl⟩ := row_any hown'; clear hown' hgrow hb2 hb1 c0 c1 HO HN HK))
  go_ret2
  exact ⟨rfl, HP.out⟩

theorem cells_len4 (c : Int) : (Lib.runeCells c).length = (Lib.encodeRuneZ c).length := by unfold Lib.runeCells; simp
set_option maxHeartbeats 1000000 in
set_option maxRecDepth 100000 in
theorem writeRune_any (b : Nat) (l : List Int) (c : Int) (hc0 : -2147483648 ≤ c) (hc1 : c ≤ 2147483647) (w : World) (h : Bu w b l) (hm : l.length ≤ 100000000) :
    Calls Tryz.prog 80 #[.pointer (some ⟨b, 0, none⟩), .int .i32 c] w fun e w' => e = .returned (.tuple #[.int .i64 (Lib.encodeRuneZ c).length, .nilIface]) ∧ Used w' b (l ++ Lib.encodeRuneZ c) ∧ Bw b w w' := by
  have hw := h.lt
  have hk4 := Lib.encodeRuneZ_length c
  have CC := Lib.hid (copyCheck_any b l w h)
  clear h
  go_enter Tryz.func80, Tryz.ntmps80
  go_wp2_with (first | (go_at_call 61; ((with_reducible refine (CC.out).mono ?_); rintro e w1 ⟨rfl, U, hb1⟩; obtain ⟨ao, cap, hbk, hown, hne, hlt⟩ := U.parts; obtain ⟨c0, c1, _⟩ := buf_cells hbk; have HO := Lib.hid hown; have HN := Lib.hid hne; have HK := Lib.hid hbk; have CA := Lib.hid (Tryz.utf8_AppendRune_row b _ l.length (nums .u8 l) c hc0 hc1 w1 hown (by omega) (Nat.le_of_lt hlt)); clear hown hne hbk U CC)) | (go_at_call 99; ((with_reducible refine (CA.out).mono ?_); rintro e w2 ⟨v', rfl, hown', o, hgrow⟩; have hb2 := buf_kept (o := some o) HK.out hlt HN.out hgrow; obtain ⟨d0, d1, d2⟩ := buf_cells hb2; rw [cells_len4] at hown'; have HP := Lib.hid (buf_put (m := Lib.encodeRuneZ c) (o := some o) hb1 (Nat.le_of_lt hw) HO.out hb2 hown' hgrow); obtain ⟨g, cap', rfl⟩ := row_some hown' (by omega); clear hown' hgrow hb2 hb1 c0 c1 CA HO HN HK)))
  go_ret2
  have e : ((l.length : Int) + ((Lib.encodeRuneZ c).length : Int) - (l.length : Int)) = ((Lib.encodeRuneZ c).length : Int) := by omega
  refine ⟨?_, HP.out⟩
  simp [e]
end Go.Proofs.YtgcmjkimiakibaaGreatDoor

/-
  The library's contracts of unicode/utf8.ValidString and math/bits.TrailingZeros, laid at this translation: one application each.
-/
namespace Go.Proofs
open Go.Shelf Go.RowKit
def Tryz.lays196_ren : Go.Shelf.Ren := ⟨fun | 196 => 83 | 259 => 107 | n => n, fun | 0 => 0 | 3 => 3 | 4 => 4 | 5 => 5 | 9 => 9 | 12 => 12 | 46 => 104 | 53 => 129 | 119 => 121 | 138 => 123 | 139 => 124 | n => n, fun | 3 => 0 | 4 => 1 | n => n⟩
theorem Tryz.lays196 : Go.Proofs.Lays.n196 Tryz.prog Tryz.lays196_ren := {
  mixed := by kernel_rfl
  f196 := Tryz.func83.trans (congrArg some (by kernel_rfl))
  f259 := Tryz.func107.trans (congrArg some (by kernel_rfl))
  t0 := Tryz.underlying0
  a0 := Tryz.isAgg0
  z0 := Tryz.sizeOf0
  v0 := Tryz.zeroValue0
  t3 := Tryz.underlying3
  a3 := Tryz.isAgg3
  z3 := Tryz.sizeOf3
  v3 := Tryz.zeroValue3
  t4 := Tryz.underlying4
  a4 := Tryz.isAgg4
  z4 := Tryz.sizeOf4
  v4 := Tryz.zeroValue4
  t5 := Tryz.underlying5
  a5 := Tryz.isAgg5
  z5 := Tryz.sizeOf5
  v5 := Tryz.zeroValue5
  t9 := Tryz.underlying9
  a9 := Tryz.isAgg9
  z9 := Tryz.sizeOf9
  v9 := Tryz.zeroValue9
  t12 := Tryz.underlying12
  a12 := Tryz.isAgg12
  z12 := Tryz.sizeOf12
  v12 := Tryz.zeroValue12
  t46 := Tryz.underlying104
  a46 := Tryz.isAgg104
  z46 := Tryz.sizeOf104
  v46 := Tryz.zeroValue104
  t53 := Tryz.underlying129
  a53 := Tryz.isAgg129
  z53 := Tryz.sizeOf129
  v53 := Tryz.zeroValue129
  t119 := Tryz.underlying121
  a119 := Tryz.isAgg121
  z119 := Tryz.sizeOf121
  t138 := Tryz.underlying123
  a138 := Tryz.isAgg123
  z138 := Tryz.sizeOf123
  v138 := Tryz.zeroValue123
  t139 := Tryz.underlying124
  a139 := Tryz.isAgg124
  z139 := Tryz.sizeOf124
  v139 := Tryz.zeroValue124
  g3 := by kernel_rfl
  g4 := by kernel_rfl }
theorem Tryz.utf8_ValidString (s : ByteArray) (w : World) (hs : s.size ≤ 9223372036854775807) (hT : Lib.Utf8Tabs 0 1 w) :
    Calls Tryz.prog 83 #[.string s] w fun e w' => e = .returned (.bool (Lib.validD s.data.toList)) ∧ Below w.heap.size w w' := Any.utf8_ValidString Tryz.lays196 s w hs hT
def Tryz.lays7n27_ren : Go.Shelf.Ren := ⟨fun | 27 => 139 | 28 => 143 | 29 => 144 | n => n, fun | 0 => 0 | 3 => 3 | 4 => 4 | 5 => 5 | 22 => 129 | 25 => 104 | 27 => 127 | 53 => 157 | 54 => 158 | n => n, fun | 0 => 6 | 1 => 7 | n => n⟩
theorem Tryz.lays7n27 : Go.Proofs.Lays7.n27 Tryz.prog Tryz.lays7n27_ren := {
  mixed := by kernel_rfl
  f27 := Tryz.func139.trans (congrArg some (by kernel_rfl))
  f28 := Tryz.func143.trans (congrArg some (by kernel_rfl))
  f29 := Tryz.func144.trans (congrArg some (by kernel_rfl))
  t0 := Tryz.underlying0
  a0 := Tryz.isAgg0
  z0 := Tryz.sizeOf0
  v0 := Tryz.zeroValue0
  i0 := by kernel_rfl
  t3 := Tryz.underlying3
  a3 := Tryz.isAgg3
  z3 := Tryz.sizeOf3
  v3 := Tryz.zeroValue3
  i3 := by kernel_rfl
  t4 := Tryz.underlying4
  a4 := Tryz.isAgg4
  z4 := Tryz.sizeOf4
  v4 := Tryz.zeroValue4
  i4 := by kernel_rfl
  t5 := Tryz.underlying5
  a5 := Tryz.isAgg5
  z5 := Tryz.sizeOf5
  v5 := Tryz.zeroValue5
  i5 := by kernel_rfl
  t22 := Tryz.underlying129
  a22 := Tryz.isAgg129
  z22 := Tryz.sizeOf129
  v22 := Tryz.zeroValue129
  i22 := by kernel_rfl
  t25 := Tryz.underlying104
  a25 := Tryz.isAgg104
  z25 := Tryz.sizeOf104
  v25 := Tryz.zeroValue104
  i25 := by kernel_rfl
  t27 := Tryz.underlying127
  a27 := Tryz.isAgg127
  z27 := Tryz.sizeOf127
  v27 := Tryz.zeroValue127
  i27 := by kernel_rfl
  t53 := Tryz.underlying157
  a53 := Tryz.isAgg157
  z53 := Tryz.sizeOf157
  v53 := Tryz.zeroValue157
  i53 := by kernel_rfl
  t54 := Tryz.underlying158
  a54 := Tryz.isAgg158
  z54 := Tryz.sizeOf158
  g0 := by kernel_rfl
  g1 := by kernel_rfl }
theorem Tryz.bits_TrailingZeros (x : Nat) (hx : x < 18446744073709551616) (w : World) (hT : x ≠ 0 → TabAt 7 Lib.deBruijn64tab w) :
    Calls Tryz.prog 139 #[.int .u64 x] w fun e w' => e = .returned (.int .i64 (Lib.ctz 64 x)) ∧ w' = w := Any7.bits_TrailingZeros Tryz.lays7n27 x hx w hT
end Go.Proofs

/-
  The walk of the library's FormatInt at base 16.
-/
namespace Go.Proofs.YtgcmjkimiakibaaGreatDoor
open Go.RowKit

theorem power_16 (w : World) : Calls Tryz.prog 138 #[.int .i64 16] w fun e w' => e = .returned (.bool true) ∧ w = w' := by
  have hb : bits BinOp.and IntKind.i64 16 15 = 0 := by decide
  go_enter Tryz.func138, Tryz.ntmps138
  go_wp2_with fail
  go_ret
  exact ⟨rfl, rfl⟩
theorem ctz_16 : (Lib.ctz 64 16 : Int) = 4 := by decide

/-- digits so far, from the end of the array at block B -/
def DigAt (c : Int) (B : Nat) (w : World) (v1 v13 : Value) (wr : World) : Prop :=
  ∃ (f i : Nat) (v : Int) (D : List Int) (cs : Array Value), v1 = .int .u64 v ∧ v13 = .int .i64 i ∧ f + D.length = 6 ∧ i + D.length = 65 ∧ 1 ≤ f ∧ 0 ≤ v ∧ v ≤ 1114111 ∧ Hid (v < 16 ^ f) ∧ Hid (Pr.hexF f v ++ D = Pr.hexC c) ∧
    Hid (wr.heap[B]? = some (.cells cs 145 (0, 0)) ∧ cs.size = 65 ∧ ∀ j, j < D.length → cs[i + j]? = some (.int .u8 (Ru.g D j))) ∧ Hid (Below B w wr)
theorem and_15 (v : Int) (h0 : 0 ≤ v) (h1 : v ≤ 1114111) : bits BinOp.and IntKind.u64 v 15 = v % 16 := by
  obtain ⟨n, rfl⟩ : ∃ n : Nat, v = n := ⟨v.toNat, by omega⟩
  have h : bits BinOp.and IntKind.u64 (n : Int) 15 = ((n &&& 15 : Nat) : Int) := bits_and_u64_nat n 15 (by omega) (by omega)
  rw [h, show (15 : Nat) = 2 ^ 4 - 1 from rfl, Nat.and_two_pow_sub_one_eq_mod]
  omega
abbrev digits36 : ByteArray := ⟨#[48, 49, 50, 51, 52, 53, 54, 55, 56, 57, 97, 98, 99, 100, 101, 102, 103, 104, 105, 106, 107, 108, 109, 110, 111, 112, 113, 114, 115, 116, 117, 118, 119, 120, 121, 122]⟩
theorem index_36 (d : Int) (h0 : 0 ≤ d) (h1 : d ≤ 15) (W : World) : (Instr.index 9 (.string digits36) (.int .u64 d)).run Tryz.prog W = .ok (.int .u8 (Tk.hx d)) W := by
  rcases (show d = 0 ∨ d = 1 ∨ d = 2 ∨ d = 3 ∨ d = 4 ∨ d = 5 ∨ d = 6 ∨ d = 7 ∨ d = 8 ∨ d = 9 ∨ d = 10 ∨ d = 11 ∨ d = 12 ∨ d = 13 ∨ d = 14 ∨ d = 15 by omega) with rfl | rfl | rfl | rfl | rfl | rfl | rfl | rfl | rfl | rfl | rfl | rfl | rfl | rfl | rfl | rfl
  all_goals kernel_rfl

theorem dig_next {c v : Int} {f i : Nat} {D : List Int} {cs : Array Value} {B : Nat} {w wr : World} (hf : f + D.length = 6) (hi : (i + 1) + D.length = 65) (hv : 16 ≤ v) (HV : v < 16 ^ f) (HX : Pr.hexF f v ++ D = Pr.hexC c)
    (HA : wr.heap[B]? = some (.cells cs 145 (0, 0)) ∧ cs.size = 65 ∧ ∀ j, j < D.length → cs[i + 1 + j]? = some (.int .u8 (Ru.g D j))) (HB : Below B w wr) :
    f - 1 + (Tk.hx (v % 16) :: D).length = 6 ∧ i + (Tk.hx (v % 16) :: D).length = 65 ∧ 1 ≤ f - 1 ∧ v / 16 < 16 ^ (f - 1) ∧ Pr.hexF (f - 1) (v / 16) ++ Tk.hx (v % 16) :: D = Pr.hexC c ∧
    ((wr.setCell ⟨B, i, none⟩ (.int .u8 (Tk.hx (v % 16)))).heap[B]? = some (.cells (cs.setIfInBounds i (.int .u8 (Tk.hx (v % 16)))) 145 (0, 0)) ∧ (cs.setIfInBounds i (.int .u8 (Tk.hx (v % 16)))).size = 65 ∧
      ∀ j, j < (Tk.hx (v % 16) :: D).length → (cs.setIfInBounds i (.int .u8 (Tk.hx (v % 16))))[i + j]? = some (.int .u8 (Ru.g (Tk.hx (v % 16) :: D) j))) ∧
    Below B w (wr.setCell ⟨B, i, none⟩ (.int .u8 (Tk.hx (v % 16)))) := by
  obtain ⟨q, rfl⟩ : ∃ q, f = q + 1 := ⟨f - 1, by
    rcases f with _ | f
    · simp at HV; omega
    · rfl⟩
  have hq : 1 ≤ q := by
    rcases q with _ | q
    · simp at HV; omega
    · omega
  rw [Int.pow_succ] at HV
  refine ⟨by simp; omega, by simp; omega, by omega, by simp only [Nat.add_sub_cancel]; omega, ?_, ⟨?_, by simp [HA.2.1], ?_⟩, HB.setCell (Nat.le_refl _) _⟩
  · rw [← HX, Nat.add_sub_cancel]
    conv => rhs; unfold Pr.hexF
    rw [if_neg (by omega)]
    simp
  · simp [World.setCell, Array.getElem?_modify, HA.1]
  · intro j hj
    have hs := HA.2.1
    rcases j with _ | j
    · rw [Nat.add_zero, Array.getElem?_setIfInBounds_self_of_lt (by omega)]; rfl
    · rw [Array.getElem?_setIfInBounds_ne (by omega)]
      have := HA.2.2 j (by simpa using hj)
      rw [show i + (j + 1) = i + 1 + j by omega, this]; rfl
theorem dig_last {c v : Int} {f i : Nat} {D : List Int} {cs : Array Value} {B : Nat} {w wr : World} (hf : 1 ≤ f) (hi : (i + 1) + D.length = 65) (hv : v < 16) (HX : Pr.hexF f v ++ D = Pr.hexC c)
    (HA : wr.heap[B]? = some (.cells cs 145 (0, 0)) ∧ cs.size = 65 ∧ ∀ j, j < D.length → cs[i + 1 + j]? = some (.int .u8 (Ru.g D j))) (HB : Below B w wr) :
    (convert 28 9 (.slice (some ⟨B, i, none⟩) (65 - i) (65 - i))).run Tryz.prog (wr.setCell ⟨B, i, none⟩ (.int .u8 (Tk.hx v))) = .ok (.string (strOfNums (Pr.hexC c))) (wr.setCell ⟨B, i, none⟩ (.int .u8 (Tk.hx v))) ∧
    Below B w (wr.setCell ⟨B, i, none⟩ (.int .u8 (Tk.hx v))) := by
  obtain ⟨q, rfl⟩ : ∃ q, f = q + 1 := ⟨f - 1, by omega⟩
  have hX : Tk.hx v :: D = Pr.hexC c := by
    rw [← HX]
    unfold Pr.hexF
    rw [if_pos hv]; rfl
  have hl : 65 - i = (Tk.hx v :: D).length := by simp; omega
  refine ⟨?_, HB.setCell (Nat.le_refl _) _⟩
  rw [← hX, hl]
  refine run_convert_bytes_arg _ 28 5 Tryz.underlying28 Tryz.underlying5 B i _ _ (Tk.hx v :: D) rfl (fun j hj => ?_) 9 Tryz.underlying9
  have hs := HA.2.1
  have hb : (wr.setCell ⟨B, i, none⟩ (.int .u8 (Tk.hx v))).heap[B]? = some (.cells (cs.setIfInBounds i (.int .u8 (Tk.hx v))) 145 (0, 0)) := by simp [World.setCell, Array.getElem?_modify, HA.1]
  rcases j with _ | j
  · have hne : (cs.setIfInBounds i (.int .u8 (Tk.hx v)))[i + 0]? = some (.int .u8 (Tk.hx v)) := by rw [Nat.add_zero, Array.getElem?_setIfInBounds_self_of_lt (by omega)]
    simp only [World.cell?, hb, hne]
    rfl
  · have h := HA.2.2 j (by simpa using hj)
    have hne : (cs.setIfInBounds i (.int .u8 (Tk.hx v)))[i + (j + 1)]? = some (.int .u8 (Ru.g D j)) := by
      rw [Array.getElem?_setIfInBounds_ne (by omega), show i + (j + 1) = i + 1 + j by omega, h]
    simp only [World.cell?, hb, hne]
    rfl
theorem array_65 : Tryz.prog.underlying 145 = some (.array (Tryz.prog.arrayLen 145) (Tryz.prog.elem 145)) := by kernel_rfl
theorem len_65 : Tryz.prog.arrayLen 145 = 65 := by kernel_rfl
theorem elem_65 (w : World) : (sizeOf (Tryz.prog.elem 145)).run Tryz.prog w = .ok 1 w := by kernel_rfl
theorem slice_65 (B j : Nat) (hj : j < 65) (W : World) : (Instr.sliceAt 145 (.pointer (some ⟨B, 0, none⟩)) (some (.int .i64 (j : Int))) none none).run Tryz.prog W = .ok (.slice (some ⟨B, j, none⟩) (65 - j) (65 - j)) W := by
  rw [run_sliceAt_array_l W 145 _ array_65 .i64 (j : Int) (by omega) (by rw [len_65]; omega), elem_65, len_65]
  simp only [Result.andThen_ok, slicedAt, Int.toNat_natCast]
  rw [if_neg (by omega)]
  simp [Addr.add]
  intro h
  subst h
  rfl
set_option maxHeartbeats 1000000 in
set_option maxRecDepth 100000 in
theorem formatBits_any (c : Int) (h0 : 0 ≤ c) (h1 : c ≤ 1114111) (w : World) (hT : TabAt 7 Lib.deBruijn64tab w) (hg : 7 < w.heap.size) :
    Calls Tryz.prog 128 #[.slice none 0 0, .int .u64 c, .int .i64 16, .bool false, .bool false] w fun e w' => e = .returned (.tuple #[.slice none 0 0, .string (strOfNums (Pr.hexC c))]) ∧ Below w.heap.size w w' := by
  have CT : Hid (∀ w1, Below w.heap.size w w1 → Calls Tryz.prog 139 #[.int .u64 16] w1 fun e w' => e = .returned (.int .i64 4) ∧ w1 = w') := Lib.hid fun w1 hb => by
    have h := Tryz.bits_TrailingZeros 16 (by decide) w1 (fun _ j hj => (hb.cell (p := ⟨_, _, none⟩) hg).trans (hT j hj))
    rw [ctz_16] at h
    exact h.mono fun e w' ⟨a, b⟩ => ⟨a, b.symm⟩
  clear hT
  go_enter Tryz.func128, Tryz.ntmps128
  go_wp2_with (first | (go_at_call 138; ((with_reducible refine (power_16 _).mono ?_); rintro e w1 ⟨rfl, rfl⟩)) | (go_at_call 139; ((with_reducible refine (CT.out _ ((Below.refl _ _).alloc (Nat.le_refl _) _)).mono ?_); rintro e w1 ⟨rfl, rfl⟩)))
  go_loopw [1, 13] (DigAt c w.heap.size w) (fun v1 _ _ => (RowKit.intOf v1).toNat)
  case atStart => exact ⟨6, 65, c, [], _, rfl, rfl, rfl, rfl, by omega, h0, h1, Lib.hid (by show c < 16777216; omega), Lib.hid (by rw [List.append_nil]; rfl), Lib.hid ⟨heap_alloc_new w _, by kernel_rfl, fun j hj => absurd hj (by simp)⟩, Lib.hid ((Below.refl _ _).alloc (Nat.le_refl _) _)⟩
  case round =>
    obtain ⟨f, i, v, D, cs, rfl, rfl, hf, hi, h1f, hv0, hv1, HV, HX, HA, HB⟩ := hrel
    obtain ⟨j, rfl⟩ : ∃ j, i = j + 1 := ⟨i - 1, by omega⟩
    have hcell : wr.cell? ⟨w.heap.size, j, none⟩ = cs[j]? := by simp [World.cell?, HA.out.1]
    have hfz : wr.frozen? ⟨w.heap.size, j, none⟩ = false := by simp [World.frozen?, HA.out.1]
    obtain ⟨x, hx⟩ : ∃ x, cs[j]? = some x := ⟨cs[j]'(by have := HA.out.2.1; omega), Array.getElem?_eq_getElem _⟩
    rw [hx] at hcell
    clear hx
    by_cases hlt : 16 ≤ v
    · have ha := and_15 v hv0 hv1
      have hix := index_36 (v % 16) (by omega) (by omega)
      rw [← ha] at hix
      clear ha
      go_wp2_with fail
      go_roundw
      case rel =>
        obtain ⟨d1, d2, d3, d4, d5, d6, d7⟩ := dig_next hf hi hlt HV.out HX.out HA.out HB.out
        rw [and_15 v hv0 hv1]
        exact ⟨f - 1, j, v / 16, Tk.hx (v % 16) :: D, _, rfl, rfl, d1, d2, d3, by omega, by omega, Lib.hid d4, Lib.hid d5, Lib.hid d6, Lib.hid d7⟩
      case measure => simp [RowKit.intOf]; omega
    · have hix := index_36 v (by omega) (by omega)
      have hsl := slice_65 w.heap.size j (by omega)
      obtain ⟨hcv, hbl⟩ := dig_last h1f hi (by omega) HX.out HA.out HB.out
      go_wp2_with fail
      go_ret2
      exact ⟨rfl, hbl⟩

/-- the numbers that escapes have -/
def HexS (c : Int) (w : World) (e : Ending) (w' : World) : Prop := e = .returned (.string (strOfNums (Pr.hexC c))) ∧ Below w.heap.size w w'
set_option maxRecDepth 100000 in
theorem iformat_16 (c : Int) (h0 : 0 ≤ c) (h1 : c ≤ 1114111) (w : World) (hT : TabAt 7 Lib.deBruijn64tab w) (hg : 7 < w.heap.size) :
    Calls Tryz.prog 117 #[.int .i64 c, .int .i64 16] w (HexS c w) := by
  have C := Lib.hid (formatBits_any c h0 h1 w hT hg)
  have hd : decide (c < 0) = false := decide_eq_false (by omega)
  clear hT hg
  go_enter Tryz.func117, Tryz.ntmps117
  go_wp2_with (go_at_call 128; ((with_reducible refine (C.out).mono ?_); rintro e w1 ⟨rfl, hb⟩))
  go_ret
  exact ⟨rfl, hb⟩
theorem format_16 (c : Int) (h0 : 0 ≤ c) (h1 : c ≤ 1114111) (w : World) (hT : TabAt 7 Lib.deBruijn64tab w) (hg : 7 < w.heap.size) :
    Calls Tryz.prog 100 #[.int .i64 c, .int .i64 16] w (HexS c w) := by
  have C := Lib.hid (iformat_16 c h0 h1 w hT hg)
  clear hT hg
  go_enter Tryz.func100, Tryz.ntmps100
  go_wp2_with (go_at_call 117; ((with_reducible refine (C.out).mono ?_); rintro e w1 ⟨rfl, hb⟩))
  go_ret
  exact ⟨rfl, hb⟩
end Go.Proofs.YtgcmjkimiakibaaGreatDoor

/-
  Walks of the small functions of runes: what a character is.
-/
namespace Go.Proofs.YtgcmjkimiakibaaGreatDoor
open Go.RowKit

namespace Ru
theorem isB_lib (c : Int) : Lib.validRune c = isB c := by
  unfold Lib.validRune isB
  rw [Bool.eq_iff_iff]; simp; omega
end Ru

set_option maxHeartbeats 400000 in
theorem is_any (c : Int) (w : World) :
    Calls Tryz.prog 93 #[.int .i32 c] w fun e w' => e = .returned (.bool (Ru.isB c)) ∧ w = w' := by
  rw [← Ru.isB_lib]
  go_enter Tryz.func93, Tryz.ntmps93
  go_wp2_with (go_at_call 111; refine (Tryz.utf8_ValidRune _ _).mono ?_; rintro e w' ⟨rfl, rfl⟩)
  go_ret
  exact ⟨rfl, rfl⟩

set_option maxHeartbeats 400000 in
theorem letter_any (c : Int) (w : World) :
    Calls Tryz.prog 94 #[.int .i32 c] w fun e w' => e = .returned (.bool (Ru.letB c)) ∧ w = w' := by
  by_cases a1 : 97 ≤ c <;> by_cases a2 : c ≤ 122 <;> by_cases a3 : 65 ≤ c <;> by_cases a4 : c ≤ 90
  all_goals try omega
  all_goals
    go_enter Tryz.func94, Tryz.ntmps94
    go_wp2_with fail
    go_ret
    exact ⟨ret_bool (by unfold Ru.letB; simp; try omega), rfl⟩

set_option maxHeartbeats 400000 in
theorem isdigit_any (c : Int) (w : World) :
    Calls Tryz.prog 73 #[.int .i32 c] w fun e w' => e = .returned (.bool (Ru.digB c)) ∧ w = w' := by
  by_cases a1 : 48 ≤ c <;> by_cases a2 : c ≤ 57
  all_goals try omega
  all_goals
    go_enter Tryz.func73, Tryz.ntmps73
    go_wp2_with fail
    go_ret
    exact ⟨ret_bool (by unfold Ru.digB; simp; try omega), rfl⟩

set_option maxHeartbeats 400000 in
theorem white_any (c : Int) (w : World) :
    Calls Tryz.prog 33 #[.int .i32 c] w fun e w' => e = .returned (.bool (Ru.whiB c)) ∧ w = w' := by
  by_cases a1 : c = 9
  · subst a1
    go_enter Tryz.func33, Tryz.ntmps33
    go_wp2_with fail
    go_ret
    exact ⟨rfl, rfl⟩
  · by_cases a2 : c = 10
    · subst a2
      go_enter Tryz.func33, Tryz.ntmps33
      go_wp2_with fail
      go_ret
      exact ⟨rfl, rfl⟩
    · by_cases a3 : c = 32
      · subst a3
        go_enter Tryz.func33, Tryz.ntmps33
        go_wp2_with fail
        go_ret
        exact ⟨rfl, rfl⟩
      · have e1 := Ru.eq_f a1
        have e2 := Ru.eq_f a2
        have e3 := Ru.eq_f a3
        go_enter Tryz.func33, Tryz.ntmps33
        go_wp2_with fail
        go_ret
        exact ⟨ret_bool (by unfold Ru.whiB; simp [a1, a2, a3]), rfl⟩

set_option maxHeartbeats 400000 in
theorem begins_any (c : Int) (w : World) :
    Calls Tryz.prog 72 #[.int .i32 c] w fun e w' => e = .returned (.bool (Ru.begB c)) ∧ w = w' := by
  by_cases a : (97 ≤ c ∧ c ≤ 122) ∨ (65 ≤ c ∧ c ≤ 90)
  · have hd : Ru.letB c = true := decide_eq_true a
    have H := Lib.hid a
    clear a
    go_enter Tryz.func72, Tryz.ntmps72
    go_wp2_with (first | (go_at_call 94; refine (letter_any _ _).mono ?_; rintro e w' ⟨rfl, rfl⟩) | (go_at_call 93; refine (is_any _ _).mono ?_; rintro e w' ⟨rfl, rfl⟩))
    go_ret
    exact ⟨ret_bool (decide_eq_true (Or.inl H.out)).symm, rfl⟩
  · have hd : Ru.letB c = false := decide_eq_false a
    have H := Lib.hid a
    clear a
    by_cases a1 : c = 95
    · subst a1
      go_enter Tryz.func72, Tryz.ntmps72
      go_wp2_with (first | (go_at_call 94; refine (letter_any _ _).mono ?_; rintro e w' ⟨rfl, rfl⟩) | (go_at_call 93; refine (is_any _ _).mono ?_; rintro e w' ⟨rfl, rfl⟩))
      go_ret
      exact ⟨rfl, rfl⟩
    · have e1 := Ru.eq_f a1
      by_cases a2 : 128 ≤ c
      · go_enter Tryz.func72, Tryz.ntmps72
        go_wp2_with (first | (go_at_call 94; refine (letter_any _ _).mono ?_; rintro e w' ⟨rfl, rfl⟩) | (go_at_call 93; refine (is_any _ _).mono ?_; rintro e w' ⟨rfl, rfl⟩))
        go_ret
        exact ⟨ret_bool (by unfold Ru.begB Ru.isB; rw [Bool.eq_iff_iff]; simp; have := H.out; omega), rfl⟩
      · go_enter Tryz.func72, Tryz.ntmps72
        go_wp2_with (first | (go_at_call 94; refine (letter_any _ _).mono ?_; rintro e w' ⟨rfl, rfl⟩) | (go_at_call 93; refine (is_any _ _).mono ?_; rintro e w' ⟨rfl, rfl⟩))
        go_ret
        exact ⟨ret_bool (by unfold Ru.begB; rw [Bool.eq_iff_iff]; simp; have := H.out; omega), rfl⟩

set_option maxHeartbeats 400000 in
theorem within_any (c : Int) (w : World) :
    Calls Tryz.prog 37 #[.int .i32 c] w fun e w' => e = .returned (.bool (Ru.witB c)) ∧ w = w' := by
  unfold Ru.witB
  cases hb : Ru.begB c
  · by_cases a : 48 ≤ c ∧ c ≤ 57
    · have hd : Ru.digB c = true := decide_eq_true a
      have H := Lib.hid a
      clear a
      go_enter Tryz.func37, Tryz.ntmps37
      go_wp2_with (first | (go_at_call 72; refine (begins_any _ _).mono ?_; rintro e w' ⟨rfl, rfl⟩) | (go_at_call 73; refine (isdigit_any _ _).mono ?_; rintro e w' ⟨rfl, rfl⟩))
      go_ret
      exact ⟨ret_bool (decide_eq_true (Or.inl H.out)).symm, rfl⟩
    · have hd : Ru.digB c = false := decide_eq_false a
      have H := Lib.hid a
      clear a
      by_cases a1 : c = 45
      · subst a1
        go_enter Tryz.func37, Tryz.ntmps37
        go_wp2_with (first | (go_at_call 72; refine (begins_any _ _).mono ?_; rintro e w' ⟨rfl, rfl⟩) | (go_at_call 73; refine (isdigit_any _ _).mono ?_; rintro e w' ⟨rfl, rfl⟩))
        go_ret
        exact ⟨rfl, rfl⟩
      · have e1 := Ru.eq_f a1
        go_enter Tryz.func37, Tryz.ntmps37
        go_wp2_with (first | (go_at_call 72; refine (begins_any _ _).mono ?_; rintro e w' ⟨rfl, rfl⟩) | (go_at_call 73; refine (isdigit_any _ _).mono ?_; rintro e w' ⟨rfl, rfl⟩))
        go_ret
        exact ⟨ret_bool (by simp [a1]; have := H.out; omega), rfl⟩
  · go_enter Tryz.func37, Tryz.ntmps37
    go_wp2_with (first | (go_at_call 72; refine (begins_any _ _).mono ?_; rintro e w' ⟨rfl, rfl⟩) | (go_at_call 73; refine (isdigit_any _ _).mono ?_; rintro e w' ⟨rfl, rfl⟩))
    go_ret
    exact ⟨rfl, rfl⟩

end Go.Proofs.YtgcmjkimiakibaaGreatDoor

/-
  The library's tables, below a block.
-/
namespace Go.Proofs.YtgcmjkimiakibaaGreatDoor
open Go.RowKit

/-- the library's tables, below block B -/
def UTab (B : Nat) (w : World) : Prop := Lib.Utf8Tabs 0 1 w ∧ 0 < B ∧ 1 < B
theorem UTab.below {B : Nat} {w w' : World} (h : UTab B w) (hb : Below B w w') : UTab B w' :=
  ⟨⟨fun c hc => (hb.cell (p := ⟨_, _, none⟩) h.2.1).trans (h.1.1 c hc), fun i hi => ⟨(hb.cell (p := ⟨_, _, none⟩) h.2.2).trans (h.1.2 i hi).1, (hb.cell (p := ⟨_, _, none⟩) h.2.2).trans (h.1.2 i hi).2⟩⟩, h.2⟩
theorem UTab.of {w : World} (h : Lib.Utf8Tabs 0 1 w) : UTab w.heap.size w :=
  ⟨h, World.block_lt_of_cell? w _ (h.1 0 (by decide)), World.block_lt_of_cell? w _ (h.2 0 (by decide)).1⟩

end Go.Proofs.YtgcmjkimiakibaaGreatDoor

/-
  Words for what calls tell; tables and slices carried on. No run of the program in this text.
-/
namespace Go.Proofs.YtgcmjkimiakibaaGreatDoor
open Go.RowKit

/-- a law's answer -/
def Yes (w : World) (e : Ending) (w' : World) : Prop := e = .returned (.bool true) ∧ Below w.heap.size w w'
/-- a slice that reads as numbers -/
def Told (k : IntKind) (l : List Int) (w : World) (e : Ending) (w' : World) : Prop :=
  ∃ (A : Option Addr) (cap : Nat), e = .returned (.slice A l.length cap) ∧ l.length ≤ cap ∧ Bs w' w'.heap.size k A l ∧ Below w.heap.size w w'
theorem own_form {w : World} {B : Nat} {k : IntKind} {E : TypeId} {l : List Int} {v : Value} (h : w.ownsRow B E 1 v l.length (nums k l)) : ∃ A cap, v = .slice A l.length cap ∧ l.length ≤ cap ∧ Bs w w.heap.size k A l := by
  rcases h.2 with ⟨rfl, h0⟩ | ⟨x, cap, cur, rfl, _, _, hc, _⟩
  · exact ⟨none, 0, by rw [h0], by omega, fun hl => by omega⟩
  · exact ⟨_, cap, rfl, hc, Bs.of_own h⟩
theorem told {k : IntKind} {E : TypeId} {l : List Int} {w : World} {e : Ending} {w' : World} (h : Made k E l w e w') : Told k l w e w' := by
  obtain ⟨v, rfl, hown, hb⟩ := h
  obtain ⟨A, cap, rfl, hc, hB⟩ := own_form hown
  exact ⟨A, cap, rfl, hc, hB, hb⟩
theorem below_next {w w1 w2 : World} (h : Below w.heap.size w w1) (h2 : Below w1.heap.size w1 w2) : Below w.heap.size w w2 := h.trans (h2.mono h.size)
theorem UTab.next {w w1 : World} (h : UTab w.heap.size w) (hb : Below w.heap.size w w1) : UTab w1.heap.size w1 := ⟨(h.below hb).1, by have := hb.size; have := h.2; omega⟩
theorem Bs.next {w w1 : World} {k : IntKind} {A : Option Addr} {l : List Int} (h : Bs w w.heap.size k A l) (hb : Below w.heap.size w w1) : Bs w1 w1.heap.size k A l := (h.below hb).more hb.size

namespace Ru
theorem rd_len' (l : List Int) : (rd l).length ≤ l.length := rd_len _ _
theorem rd_ok {l : List Int} (h : By l) : ∀ c ∈ rd l, Is c ∧ c ≠ 0 ∧ c ≠ 12 ∧ c ≠ 13 := rd_is _ _ h
theorem ok_range {l : List Int} (h : ∀ c ∈ l, Is c ∧ c ≠ 0 ∧ c ≠ 12 ∧ c ≠ 13) : ∀ c ∈ l, -2147483648 ≤ c ∧ c ≤ 2147483647 := fun c hc => by
  have := (h c hc).1
  unfold Is at this
  omega
end Ru
end Go.Proofs.YtgcmjkimiakibaaGreatDoor

/-
  The walk of fixed's Stop.
-/
namespace Go.Proofs.YtgcmjkimiakibaaGreatDoor
open Go.RowKit

set_option maxHeartbeats 400000 in
theorem stop_any (n : Int) (w : World) :
    Calls Tryz.prog 64 #[.int .i64 n] w fun e w' => e = .returned (.int .i64 (Fx.stop n)) ∧ w = w' := by
  go_enter Tryz.func64, Tryz.ntmps64
  go_wp2
  all_goals (go_ret; exact ⟨ret_int (by unfold Fx.stop; omega), rfl⟩)

end Go.Proofs.YtgcmjkimiakibaaGreatDoor

/-
  The walk of the program's Print.
-/
namespace Go.Proofs.YtgcmjkimiakibaaGreatDoor
open Go.RowKit

def Tab (B : Nat) (w : World) : Prop := Lib.TabBelow Tryz.prog B w "internal/strconv.uint64pow10" .u64 Lib.pow10Tab

def Spells (l : List UInt8) (t : ByteArray) : Prop := t.data.toList = l
theorem spells_size {l : List UInt8} {t : ByteArray} (h : Spells l t) : t.size = l.length := by
  rw [← h]; simp
theorem string_is {l : List UInt8} {t : ByteArray} (h : Spells l t) : Ending.returned (.string t) = .returned (.string ⟨l.toArray⟩) := by
  rw [← h]
def Gives (l : List UInt8) (k : Nat) (B : Nat) (w : World) (e : Ending) (w' : World) : Prop :=
  ∃ t : ByteArray, e = .returned (.string t) ∧ Hid (Spells l t) ∧ t.size ≤ k ∧ Below B w w'
theorem itoa_in (B : Nat) (w0 : World) (hB : B ≤ w0.heap.size) (hT : Tab B w0) (m : Nat) (hm : m ≤ 2000000000) (w : World) (hb : Below w0.heap.size w0 w) :
    Calls Tryz.prog 81 #[.int .i64 (m : Int)] w (Gives (Lib.decDigits m) 21 w.heap.size w) := by
  refine (Tryz.strconv_Itoa (m : Int) (by omega) (by omega) w (Lib.TabBelow.here (Lib.TabBelow.on hT (hb.mono hB)))).mono ?_
  rintro e w' ⟨he, k, os, rfl⟩
  have hl := Lib.itoa_length_le (m : Int) (by omega) (by omega)
  rw [Lib.itoa_nonneg] at he hl
  exact ⟨_, he, Lib.hid rfl, by simpa [ByteArray.size] using hl, Lib.below_grow _ _ (Nat.le_refl _) _ _⟩
theorem trim_in (s : ByteArray) (hs : s.size ≤ 1000) (w : World) :
    Calls Tryz.prog 82 #[.string s, .string ⟨#[48]⟩] w (Gives (Lib.trimRightB s.data.toList 48) 1000 w.heap.size w) := by
  refine (Tryz.strings_TrimRight_one s 48 (by decide) w (by omega)).mono ?_
  rintro e w' ⟨he, rfl⟩
  refine ⟨_, he, Lib.hid rfl, ?_, Below.refl _ _⟩
  have h1 : (Lib.trimRightB s.data.toList 48).length ≤ s.data.toList.length := by
    unfold Lib.trimRightB
    rw [List.length_reverse]
    refine Nat.le_trans (List.dropWhile_sublist _).length_le ?_
    rw [List.length_reverse]
    exact Nat.le_refl _
  have h2 : s.data.toList.length = s.size := by simp
  have h3 : (⟨(Lib.trimRightB s.data.toList 48).toArray⟩ : ByteArray).size = (Lib.trimRightB s.data.toList 48).length := by simp [ByteArray.size]
  omega
theorem size0 : (⟨#[]⟩ : ByteArray).size = 0 := rfl
theorem size1 (c : UInt8) : (⟨#[c]⟩ : ByteArray).size = 1 := rfl
theorem decDigits_four {r : Nat} (h : r < 1000) : (Lib.decDigits (1000 + r)).length = 4 := by
  rw [Lib.decDigits_length, Lib.nDigits_unique 3 _ (by omega) (by omega)]

set_option maxRecDepth 100000 in
set_option maxHeartbeats 1000000 in
theorem print_any (n : Int) (B : Nat) (w : World) (hB : B ≤ w.heap.size) (hT : Tab B w) :
    Calls Tryz.prog 52 #[.int .i64 n] w (Gives (Fx.text n) 100 w.heap.size w) := by
  have h1 := Fx.stop_lo n
  have h2 := Fx.stop_hi n
  have HT := Lib.hid (show Fx.text n = Fx.textOf (decide (Fx.stop n < 0)) (Fx.stop n).natAbs from rfl)
  have hmx : (Fx.stop n).natAbs ≤ 1099511627776 := by omega
  have C1 : Hid (∀ m : Nat, m ≤ 1099511627776 → ∀ w' : World, Below w.heap.size w w' → Calls Tryz.prog 81 #[.int .i64 ((m : Int) / 1000)] w' (Gives (Lib.decDigits (m / 1000)) 21 w'.heap.size w')) := Lib.hid fun m hm w' hb => itoa_in B w hB hT (m / 1000) (by omega) w' hb
  have C2 : Hid (∀ m : Nat, ∀ w' : World, Below w.heap.size w w' → Calls Tryz.prog 81 #[.int .i64 (1000 + (m : Int) % 1000)] w' (Gives (Lib.decDigits (1000 + m % 1000)) 21 w'.heap.size w')) := Lib.hid fun m w' hb => itoa_in B w hB hT (1000 + m % 1000) (by omega) w' hb
  clear hT
  cases d1 : decide (Fx.stop n < 0)
  all_goals
    have e1 : Fx.stop n = ((Fx.stop n).natAbs : Int) ∨ Fx.stop n = -((Fx.stop n).natAbs : Int) := by omega
    first | replace e1 : Fx.stop n = ((Fx.stop n).natAbs : Int) := (by have := of_decide_eq_false d1; omega) | replace e1 : Fx.stop n = -((Fx.stop n).natAbs : Int) := (by have := of_decide_eq_true d1; omega)
    have m1 : decide (Fx.stop n < 0) = true → 0 < (Fx.stop n).natAbs := fun h => by have := of_decide_eq_true h; omega
    rw [d1] at HT m1
    generalize (Fx.stop n).natAbs = m at *
    replace C1 := Lib.hid (C1.out m hmx)
    replace C2 := Lib.hid (C2.out m)
    have hm0 : (0 : Int) ≤ (m : Int) := by omega
    first | (have hm1 : (1 : Int) ≤ (m : Int) := (by have := m1 rfl; omega)) | skip
    clear m1
    by_cases hr : m % 1000 = 0
    · have e2 : (((m : Int) % 1000) == 0) = true := by rw [beq_iff_eq]; omega
      have HR := Lib.hid hr
      clear hr h1 h2
      rw [e1] at d1
      go_enter Tryz.func52, Tryz.ntmps52
      go_wp2_with (first | (go_at_call 64; refine (stop_any _ _).mono ?_; rintro e w' ⟨rfl, rfl⟩) | (go_at_call 81; ((with_reducible refine (C1.out _ (Below.refl _ _)).mono ?_); rintro e w1 ⟨t1, rfl, s1, z1, hb1⟩)))
      go_ret
      refine ⟨_, rfl, Lib.hid ?_, ?_, hb1⟩
      · rw [HT.out, Fx.textOf, HR.out, if_pos rfl]
        have := s1.out
        unfold Spells at *
        simp [this]
      · simp only [ByteArray.size_append, size0, size1]; omega
    · have e2 : (((m : Int) % 1000) == 0) = false := by rw [beq_eq_false_iff_ne]; omega
      have HR := Lib.hid hr
      have h4 := Lib.hid (decDigits_four (r := m % 1000) (by omega))
      clear hr h1 h2
      rw [e1] at d1
      go_enter Tryz.func52, Tryz.ntmps52
      go_wp2_with (first | (go_at_call 64; refine (stop_any _ _).mono ?_; rintro e w' ⟨rfl, rfl⟩) | (go_at_call 81; ((with_reducible refine (C1.out _ (Below.refl _ _)).mono ?_); rintro e w1 ⟨t1, rfl, s1, z1, hb1⟩)) | (go_at_call 81; ((with_reducible refine (C2.out _ hb1).mono ?_); rintro e w2 ⟨t2, rfl, s2, z2, hb2⟩; have z2' : 4 ≤ t2.size := by rw [spells_size s2.out, h4.out]; exact Nat.le_refl _)) | (go_at_call 82; refine (trim_in _ (by rw [ByteArray.size_extract]; omega) _).mono ?_; rintro e w3 ⟨t3, rfl, s3, z3, hb3⟩))
      go_ret
      have hs2 := s2.out
      have hs3 := s3.out
      have hs1 := s1.out
      have hx : t3.data.toList = Fx.frac (m % 1000) := by
        unfold Spells at hs2 hs3
        rw [hs3, Lib.extract_to_end, hs2]; rfl
      have hzz : t3.size ≤ 3 := by
        have h5 := spells_size hs2
        rw [h4.out] at h5
        rw [spells_size hs3]
        unfold Lib.trimRightB
        rw [List.length_reverse]
        refine Nat.le_trans (List.dropWhile_sublist _).length_le ?_
        rw [List.length_reverse, Lib.extract_to_end, hs2, List.length_drop, h4.out]
        decide
      refine ⟨_, rfl, Lib.hid ?_, ?_, (hb1.trans (hb2.mono hb1.size)).trans (hb3.mono (Nat.le_trans hb1.size hb2.size))⟩
      · rw [HT.out, Fx.textOf, if_neg HR.out, ← hx]
        unfold Spells at *
        simp [hs1]
      · simp only [ByteArray.size_append, size0, size1]; omega

end Go.Proofs.YtgcmjkimiakibaaGreatDoor
