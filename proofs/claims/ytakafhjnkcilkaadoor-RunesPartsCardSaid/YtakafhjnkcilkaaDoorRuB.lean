/-
  Words for memory: a slice that reads as a list of numbers, nil included; the library's tables.
-/
import Derived.Test.YtakafhjnkcilkaaDoorRuA
import Derived.Test.YtakafhjnkcilkaaDoorRuL
import Derived.Below
import Derived.Laws.OwnMore
import Derived.Deep.AppendLies
import Derived.Deep.Draws
import Derived.Deep.QuietTactic
import Derived.BigQuiet
import Derived.LoopTactic
namespace Go.Proofs.YtakafhjnkcilkaaDoor
open Go.RowKit

/-- numbers of one kind, as cells -/
def nums (k : IntKind) (l : List Int) : List Value := l.map (Value.int k)
theorem nums_len (k : IntKind) (l : List Int) : (nums k l).length = l.length := by unfold nums; simp
theorem nums_one (k : IntKind) (l : List Int) : ∀ u ∈ nums k l, u.oneCell' = true := by
  intro u hu
  unfold nums at hu
  obtain ⟨x, _, rfl⟩ := List.mem_map.1 hu
  rfl
theorem nums_app (k : IntKind) (a b : List Int) : nums k (a ++ b) = nums k a ++ nums k b := by unfold nums; simp
theorem nums_at {k : IntKind} {l : List Int} {j : Nat} {u : Value} (h : (nums k l)[j]? = some u) : j < l.length ∧ u = .int k (Ru.g l j) := by
  unfold nums at h
  rw [List.getElem?_map] at h
  cases hj : l[j]? with
  | none => rw [hj] at h; cases h
  | some x =>
    rw [hj] at h
    have hlt := (List.getElem?_eq_some_iff.1 hj).1
    refine ⟨hlt, ?_⟩
    have : u = .int k x := by simpa using h.symm
    rw [this]
    unfold Ru.g
    rw [List.getD_eq_getElem?_getD, hj]; rfl
theorem nums_get {k : IntKind} {l : List Int} {j : Nat} (h : j < l.length) : (nums k l)[j]? = some (.int k (Ru.g l j)) := by
  unfold nums Ru.g
  rw [List.getElem?_map, List.getElem?_eq_getElem h, List.getD_eq_getElem?_getD, List.getElem?_eq_getElem h]; rfl

/-- the slice at A of l's length reads as l, below block B -/
def Bs (w : World) (B : Nat) (k : IntKind) (A : Option Addr) (l : List Int) : Prop :=
  0 < l.length → ∃ b off, A = some ⟨b, off, none⟩ ∧ b < B ∧ ∀ j, j < l.length → w.cell? ⟨b, off + j, none⟩ = some (.int k (Ru.g l j))

section
variable {w w' : World} {B B' : Nat} {k : IntKind} {A : Option Addr} {l : List Int}
theorem Bs.nil : Bs w B k A [] := fun h => absurd h (by simp)
theorem Bs.keep (h : Bs w B k A l) (hk : ∀ p : Addr, p.block < B → w'.cell? p = w.cell? p) : Bs w' B k A l := fun hl => by
  obtain ⟨b, off, e, hb, hc⟩ := h hl
  exact ⟨b, off, e, hb, fun j hj => (hk ⟨b, off + j, none⟩ hb).trans (hc j hj)⟩
theorem Bs.more (h : Bs w B k A l) (hB : B ≤ B') : Bs w B' k A l := fun hl => by
  obtain ⟨b, off, e, hb, hc⟩ := h hl
  exact ⟨b, off, e, by omega, hc⟩
theorem Bs.below (h : Bs w B k A l) (hb : Below B w w') : Bs w' B k A l := h.keep fun _ hp => hb.cell hp
theorem Bs.grown (h : Bs w B k A l) {row : Option Nat} (hg : w.grownBy w' row) (hB : B ≤ w.heap.size) (hr : ∀ x, row = some x → B ≤ x) : Bs w' B k A l :=
  h.keep fun p hp => World.cell?_of_block (hg.block p.block (by omega) (fun e => by have := hr _ e.symm; omega))
theorem Bs.of_own {base : Nat} {e : TypeId} {c : Nat} (h : w.ownsRow base e 1 (.slice A l.length c) l.length (nums k l)) : Bs w w.heap.size k A l := fun hl => by
  obtain ⟨x, cap, hv, _, hlt⟩ := h.form hl
  have hA : A = some ⟨x, 0, none⟩ := by injection hv
  subst hA
  refine ⟨x, 0, rfl, hlt, fun j hj => ?_⟩
  have := h.cells (g := x) rfl j _ (nums_get (k := k) hj)
  rwa [Addr.add_lit] at this
/-- from a place on -/
theorem Bs.from_ (h : Bs w B k A l) {i : Nat} (hi : i ≤ l.length) (cap : Nat) (hc : l.length ≤ cap) :
    Bs w B k (if cap = i then A else A.map (·.add i)) (l.drop i) := fun hl => by
  rw [List.length_drop] at hl
  obtain ⟨b, off, rfl, hb, hcell⟩ := h (by omega)
  rw [if_neg (by omega)]
  refine ⟨b, off + i, ?_, hb, fun j hj => ?_⟩
  · rw [Option.map_some, Addr.add_lit]
  · rw [List.length_drop] at hj
    rw [Nat.add_assoc, hcell (i + j) (by omega)]
    unfold Ru.g
    rw [List.getD_eq_getElem?_getD, List.getD_eq_getElem?_getD, List.getElem?_drop]
/-- up to a place -/
theorem Bs.upto (h : Bs w B k A l) (i : Nat) (hi : i ≤ l.length) : Bs w B k A (l.take i) := fun hl => by
  rw [List.length_take] at hl
  obtain ⟨b, off, e, hb, hcell⟩ := h (by omega)
  refine ⟨b, off, e, hb, fun j hj => ?_⟩
  rw [List.length_take] at hj
  rw [hcell j (by omega)]
  unfold Ru.g
  rw [List.getD_eq_getElem?_getD, List.getD_eq_getElem?_getD, List.getElem?_take, if_pos (by omega)]
end

/-- the library's tables, below block B -/
def Tab (B : Nat) (w : World) : Prop := Lib.Utf8Tabs 0 1 w ∧ 0 < B ∧ 1 < B
theorem Tab.below {B : Nat} {w w' : World} (h : Tab B w) (hb : Below B w w') : Tab B w' :=
  ⟨⟨fun c hc => (hb.cell (p := ⟨_, _, none⟩) h.2.1).trans (h.1.1 c hc), fun i hi => ⟨(hb.cell (p := ⟨_, _, none⟩) h.2.2).trans (h.1.2 i hi).1, (hb.cell (p := ⟨_, _, none⟩) h.2.2).trans (h.1.2 i hi).2⟩⟩, h.2⟩
theorem Tab.of {w : World} (h : Lib.Utf8Tabs 0 1 w) : Tab w.heap.size w :=
  ⟨h, World.block_lt_of_cell? w _ (h.1 0 (by decide)), World.block_lt_of_cell? w _ (h.2 0 (by decide)).1⟩

theorem bcell {W w1 : World} (hb : Below W.heap.size W w1) : (∀ b o, b < W.heap.size → w1.cell? ⟨b, o, none⟩ = W.cell? ⟨b, o, none⟩) ∧ (∀ b o, b < W.heap.size → w1.frozen? ⟨b, o, none⟩ = W.frozen? ⟨b, o, none⟩) :=
  ⟨fun b o h => hb.cell (p := ⟨b, o, none⟩) h, fun b o h => hb.frozen (p := ⟨b, o, none⟩) h⟩
theorem below_drewN {B : Nat} {a w : World} (h : Below B a w) (n : Nat) : Below B a (w.drewN n) := ⟨h.os, h.tape, h.output, h.size, h.block⟩
end Go.Proofs.YtakafhjnkcilkaaDoor
