/-
  Words for tokens in memory: rows of tokens; what Scan tells.
-/
import Derived.Test.YtppgklmliklkkaaDoorGn
import Derived.Test.YtppgklmliklkkaaDoorGm
namespace Go.Proofs.YtppgklmliklkkaaDoor
open Go.RowKit

abbrev zTok : Value := .agg #[.int .i64 0, .string ⟨#[]⟩, .int .i64 0]
theorem Tryd.infoTok : (Tryd.prog.info? 29).map (fun i => (i.zero, i.size, i.bytes)) = some (some zTok, 3, 32) := by kernel_rfl
theorem three_cell (w : World) (B : Nat) (hB : B = w.heap.size) (a b c : Value) {E : TypeId} : ∀ (j : Nat) (x : Value), [a, b, c][j]? = some x → (w.alloc (.cells #[a, b, c] E)).cell? ((⟨B, 0, none⟩ : Addr).add j) = some x := by
  intro j x hj
  subst hB
  match j, hj with
  | 0, hj => simp only [List.getElem?_cons_zero, Option.some.injEq] at hj; subst hj; simp [Addr.add, go_sem]
  | 1, hj => simp only [List.getElem?_cons_succ, List.getElem?_cons_zero, Option.some.injEq] at hj; subst hj; simp [Addr.add, go_sem]
  | 2, hj => simp only [List.getElem?_cons_succ, List.getElem?_cons_zero, Option.some.injEq] at hj; subst hj; simp [Addr.add, go_sem]
theorem three_ok (x : Int) (t : ByteArray) (n : Int) : ∀ u ∈ [Value.int .i64 x, .string t, .int .i64 n], u.oneCell' = true := by simp [Value.oneCell']
theorem own_le {w : World} {B C : Nat} {E : TypeId} {m n : Nat} {v : Value} {xs : List Value} (h : w.ownsRow B E m v n xs) (hc : C ≤ B) : w.ownsRow C E m v n xs := by
  refine ⟨h.1, ?_⟩
  rcases h.2 with h | ⟨x, cap, cur, a, b, c, d, e, f, g⟩
  · exact .inl h
  · exact .inr ⟨x, cap, cur, a, Nat.le_trans hc b, c, d, e, f, g⟩
theorem row_slice {w : World} {B : Nat} {E : TypeId} {m n : Nat} {v : Value} {xs : List Value} (h : w.ownsRow B E m v n xs) : ∃ (A : Option Addr) (cap : Nat), v = .slice A n cap ∧ n ≤ cap := by
  rcases h.2 with ⟨rfl, h0⟩ | ⟨x, cap, cur, rfl, _, _, hc, _⟩
  · exact ⟨none, 0, by rw [h0], by omega⟩
  · exact ⟨_, cap, rfl, hc⟩
theorem cells_next {ts : List Tk.Tok} {t : Tk.Tok} {w : World} {B : Nat} {E : TypeId} {v : Value} (h : w.ownsRow B E 3 v (ts.length + 1) (Tk.cells ts ++ [.int .i64 t.1, .string t.2.1, .int .i64 t.2.2])) : w.ownsRow B E 3 v (ts ++ [t]).length (Tk.cells (ts ++ [t])) := by
  rw [Tk.cells_app, List.length_append]; exact h
/-- a new row of tokens, and no error -/
def Toks (ts : List Tk.Tok) (w : World) (e : Ending) (w' : World) : Prop :=
  ∃ v, e = .returned (.tuple #[v, .int .i64 0]) ∧ w'.ownsRow w.heap.size 29 3 v ts.length (Tk.cells ts) ∧ Below w.heap.size w w'
namespace Tk
theorem rd_chr {bl : List Int} (h : Ru.By bl) : ∀ c ∈ Ru.rd bl, 0 ≤ c ∧ c ≤ 1114111 := fun c hc => by
  have := (Ru.rd_ok h c hc).1
  unfold Ru.Is at this
  omega
end Tk
end Go.Proofs.YtppgklmliklkkaaDoor
