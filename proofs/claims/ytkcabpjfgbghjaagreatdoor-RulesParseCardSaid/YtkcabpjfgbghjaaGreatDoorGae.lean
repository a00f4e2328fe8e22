/-
  The walk of print's kinds: the map of all kinds.
-/
import Derived.Test.YtkcabpjfgbghjaaGreatDoorGad
import Derived.Maps.Own
import Derived.Maps.Views
import Derived.Laws.EntriesVeiled
import Derived.Test.YtkcabpjfgbghjaaGreatDoorGac
import Derived.Test.YtkcabpjfgbghjaaGreatDoorGaa
import Derived.Laws.NewBlocks
import Derived.Deep.RegionWith
import Derived.Deep.RegionHeld3
namespace Go.Proofs.YtkcabpjfgbghjaaGreatDoor
set_option maxHeartbeats 16000000
set_option maxRecDepth 100000
open Go.RowKit Go.Maps
open Go.ChangeMaps (setBlock heap_setBlock_same heap_setBlock_other)
def rdV : Value -> Option (DataW Value × List MemPlace) := fun v => some (.held v, [])
theorem wpList_insert_own {P : Program} (w : World) {ops : Array Oper} {rest : List Oper} {o : Oper} {a : Act} {Q : Exit -> Act -> World -> Prop}
 (hg : o.guard = none) (m x v : Operand) (t : TypeId) (hop : o.op = Op.insert t m x v)
 (k e : TypeId) (K : Keyed P k) (ht : P.underlying t = some (.map k e)) (b n : Nat) (D : DataW Value)
 (hm : a.eval m = .map (some b)) (hown : w.ownsMap P k rdV b n D) (hn : n < maxLen) (key val : Value) (kl : Lit) (hx : a.eval x = key) (hv : a.eval v = val) (hkey : keyOf P k key = some kl)
 (hK : ∀ w', w'.ownsMap P k rdV b (n + 1) (D.put kl (.held val)) -> w.grownBy w' (some b) -> wpList P ops Q rest (a.put o.dst undef) w') :
 wpList P ops Q (o :: rest) a w := by
 refine wpList_plain hg fun K' hK' => ?_
 obtain ⟨w', hrun, r1, r2⟩ := hown.update K ht hn hkey (show rdV val = some (.held val, []) from rfl)
 unfold Oper.wp
 simp [execOp, hop, hm, hx, hv, hrun, Result.andThen]
 exact hK' _ _ (hK w' r1 r2)
abbrev fnV (n : Nat) : Value := .func (Fn.func n) #[] #[]
abbrev kdV (nb : Bool) (may : Nat) (ahead : ByteArray) (body : Value) (behind : ByteArray) : Value := .agg #[.bool nb, fnV may, .string ahead, body, .string behind]
abbrev fText : Value := fnV 120
abbrev fName : Value := fnV 121
abbrev fInner : Value := fnV 123
abbrev fNumber : Value := fnV 125
abbrev fBoth (c : Nat) : Value := .func (Fn.func 127) #[] #[.pointer (some ⟨c, 0, none⟩)]
def kval (c : Nat) : Nat -> Value
 | 1 => kdV false 128 ⟨#[10]⟩ fText ⟨#[]⟩
 | 2 => kdV false 129 ⟨#[]⟩ fName ⟨#[]⟩
 | 3 => kdV false 129 ⟨#[]⟩ fName ⟨#[40]⟩
 | 4 => kdV false 129 ⟨#[64]⟩ fName ⟨#[]⟩
 | 5 => kdV false 129 ⟨#[35]⟩ fName ⟨#[]⟩
 | 6 => kdV false 130 ⟨#[34]⟩ fInner ⟨#[34]⟩
 | 7 => kdV false 130 ⟨#[34]⟩ fInner ⟨#[]⟩
 | 8 => kdV true 128 ⟨#[]⟩ fNumber ⟨#[]⟩
 | 9 => kdV true 128 ⟨#[]⟩ fNumber ⟨#[37]⟩
 | 10 => kdV true 129 ⟨#[]⟩ (fBoth c) ⟨#[]⟩
 | 11 => kdV false 131 ⟨#[]⟩ fText ⟨#[]⟩
 | 12 => kdV false 132 ⟨#[]⟩ fText ⟨#[]⟩
 | 13 => kdV false 133 ⟨#[]⟩ fText ⟨#[]⟩
 | 14 => kdV false 128 ⟨#[58]⟩ fText ⟨#[]⟩
 | 15 => kdV false 128 ⟨#[59]⟩ fText ⟨#[]⟩
 | 16 => kdV false 128 ⟨#[44]⟩ fText ⟨#[]⟩
 | _ => .agg #[.bool false, .nilFunc, .string ⟨#[]⟩, .nilFunc, .string ⟨#[]⟩]
def kD (c : Nat) : Nat -> DataW Value
 | 0 => .map []
 | n + 1 => (kD c n).put (.int .i64 ((n + 1 : Nat) : Int)) (.held (kval c (n + 1)))
theorem kD_map (c : Nat) : ∀ n, IsMap (kD c n)
 | 0 => isMap_empty
 | n + 1 => (kD_map c n).put _ _
theorem kD_at (c : Nat) (j : Int) (z : DataW Value) : ∀ n, (kD c n).atKey (.int .i64 j) z = if 1 <= j /\ j <= (n : Int) then .held (kval c j.toNat) else z
 | 0 => by rw [if_neg (by omega)]; rfl
 | n + 1 => by
   unfold kD
   by_cases h : j = ((n + 1 : Nat) : Int)
   ·subst h
    rw [atKey_put_same (kD_map c n) (by show WideAt.IsKeyLit (.int _ _); trivial), if_pos (by omega), Int.toNat_natCast]
   ·rw [atKey_put_other (by intro e; injection e with _ e; exact h e), kD_at c j z n]
    by_cases h2 : 1 <= j /\ j <= (n : Int)
    ·rw [if_pos h2, if_pos (by omega)]
    ·rw [if_neg h2, if_neg (by omega)]
structure Kinds (w : World) (M c : Nat) : Prop where
 m : ∃ n, w.ownsMap Tryz.prog 3 rdV M n (kD c 16)
 n : w.heap[c]? = some (.cells #[fNumber] 92 (0, 0))
def KindsAt (w : World) (e : Ending) (w' : World) : Prop := ∃ M c, e = .returned (.map (some M)) /\ Kinds w' M c /\ M < w'.heap.size /\ c < w'.heap.size /\ Below w.heap.size w w'
def KAt (w : World) (n : Nat) (wx : World) : Prop :=
 wx.ownsMap Tryz.prog 3 rdV (w.heap.size + 1) n (kD w.heap.size n) /\ wx.heap[w.heap.size]? = some (.cells #[fNumber] 92 (0, 0)) /\ Below w.heap.size w wx /\ w.heap.size + 1 < wx.heap.size
theorem KAt.step {w wx w1 : World} {n : Nat} (h : KAt w n wx) (ho : w1.ownsMap Tryz.prog 3 rdV (w.heap.size + 1) (n + 1) (kD w.heap.size (n + 1))) (hg : wx.grownBy w1 (some (w.heap.size + 1))) : KAt w (n + 1) w1 := by
 obtain ⟨_, h2, h3, h4⟩ := h
 refine ⟨ho, (hg.block _ (by omega) (by simp)).trans h2, h3.grown hg (by omega) (fun k hk => by injection hk with hk; omega), Nat.lt_of_lt_of_le h4 hg.size⟩
theorem KAt.cell {w wx : World} {n : Nat} (h : KAt w n wx) : wx.cell? ⟨w.heap.size, 0, none⟩ = some fNumber := by simp [World.cell?, h.2.1]
theorem kinds_any (w : World) : Calls Tryz.prog 70 #[] w (KindsAt w) := by
 have hmm := @run_makeMap Tryz.prog
 have K := int_keyed (P := Tryz.prog) Tryz.underlying3
 have H0 : Hid (KAt w 0 ((w.alloc (.cells #[fNumber] 92)).alloc (.map #[] 0))) := Lib.hid (by
  refine ⟨?_, ?_, ((Below.refl _ _).alloc (Nat.le_refl _) _).alloc (by simp) _, by simp⟩
  ·have := World.ownsMap_made (w.alloc (.cells #[fNumber] 92)) Tryz.prog 3 rdV
   rw [show (w.alloc (.cells #[fNumber] 92)).heap.size = w.heap.size + 1 by simp] at this
   exact this
  ·exact (Below.heap_alloc _ _ _ (by simp)).trans (heap_alloc_new w _))
 go_enter Tryz.func70, Tryz.ntmps70
 go_wp2_with (refine wpList_insert_own _ rfl _ _ _ 111 rfl 3 124 K Tryz.underlying111 (w.heap.size + 1) _ _ rfl H0.out.1 (by unfold maxLen; omega) _ _ _ rfl rfl (keyOf_int_mk Tryz.underlying3 (by decide)) ?_; intro w1 ho hg; have H1 := Lib.hid (KAt.step H0.out ho hg); clear H0 ho hg; have hcl := H1.out.cell; have H0 := H1; clear H1)
 go_ret
 exact ⟨_, _, rfl, ⟨⟨_, H0.out.1⟩, H0.out.2.1⟩, H0.out.2.2.2, by have := H0.out.2.2.2; omega, H0.out.2.2.1⟩
end Go.Proofs.YtkcabpjfgbghjaaGreatDoor
namespace Go.Proofs.YtkcabpjfgbghjaaGreatDoor
open Go.RowKit
abbrev zTok : Value := .agg #[.int .i64 0, .string ⟨#[]⟩, .int .i64 0]
theorem Tryz.infoTok : (Tryz.prog.info? 61).map (fun i => (i.zero, i.size, i.bytes)) = some (some zTok, 3, 32) := by kernel_rfl
theorem three_cell (w : World) (B : Nat) (hB : B = w.heap.size) (a b c : Value) {E : TypeId} : ∀ (j : Nat) (x : Value), [a, b, c][j]? = some x -> (w.alloc (.cells #[a, b, c] E)).cell? ((⟨B, 0, none⟩ : Addr).add j) = some x := by
 intro j x hj
 subst hB
 match j, hj with
 | 0, hj => simp only [List.getElem?_cons_zero, Option.some.injEq] at hj; subst hj; simp [Addr.add, go_sem]
 | 1, hj => simp only [List.getElem?_cons_succ, List.getElem?_cons_zero, Option.some.injEq] at hj; subst hj; simp [Addr.add, go_sem]
 | 2, hj => simp only [List.getElem?_cons_succ, List.getElem?_cons_zero, Option.some.injEq] at hj; subst hj; simp [Addr.add, go_sem]
theorem three_ok (x : Int) (t : ByteArray) (n : Int) : ∀ u ∈ [Value.int .i64 x, .string t, .int .i64 n], u.oneCell' = true := by simp [Value.oneCell']
theorem own_le {w : World} {B C : Nat} {E : TypeId} {m n : Nat} {v : Value} {xs : List Value} (h : w.ownsRow B E m v n xs) (hc : C <= B) : w.ownsRow C E m v n xs := by
 refine ⟨h.1, ?_⟩
 rcases h.2 with h | ⟨x, cap, cur, a, b, c, d, e, f, g⟩
 ·exact .inl h
 ·exact .inr ⟨x, cap, cur, a, Nat.le_trans hc b, c, d, e, f, g⟩
theorem row_slice {w : World} {B : Nat} {E : TypeId} {m n : Nat} {v : Value} {xs : List Value} (h : w.ownsRow B E m v n xs) : ∃ (A : Option Addr) (cap : Nat), v = .slice A n cap /\ n <= cap := by
 rcases h.2 with ⟨rfl, h0⟩ | ⟨x, cap, cur, rfl, _, _, hc, _⟩
 ·exact ⟨none, 0, by rw [h0], by omega⟩
 ·exact ⟨_, cap, rfl, hc⟩
theorem cells_next {ts : List Tk.Tok} {t : Tk.Tok} {w : World} {B : Nat} {E : TypeId} {v : Value} (h : w.ownsRow B E 3 v (ts.length + 1) (Tk.cells ts ++ [.int .i64 t.1, .string t.2.1, .int .i64 t.2.2])) : w.ownsRow B E 3 v (ts ++ [t]).length (Tk.cells (ts ++ [t])) := by
 rw [Tk.cells_app, List.length_append]; exact h
def Toks (ts : List Tk.Tok) (w : World) (e : Ending) (w' : World) : Prop :=
 ∃ v, e = .returned (.tuple #[v, .int .i64 0]) /\ w'.ownsRow w.heap.size 61 3 v ts.length (Tk.cells ts) /\ Below w.heap.size w w'
namespace Tk
def tk (ts : List Tok) (j : Nat) : Tok := ts.getD j (0, ⟨#[]⟩, 0)
theorem tk_eq {ts : List Tok} {j : Nat} (h : j < ts.length) : tk ts j = ts[j] := by
 unfold tk; rw [List.getD_eq_getElem?_getD, List.getElem?_eq_getElem h]; rfl
theorem cells_at : ∀ (ts : List Tok) (j : Nat), j < ts.length -> (cells ts)[j * 3]? = some (.int .i64 (tk ts j).1) /\ (cells ts)[j * 3 + 1]? = some (.string (tk ts j).2.1) /\ (cells ts)[j * 3 + 2]? = some (.int .i64 (tk ts j).2.2)
 | [], j, h => by simp at h
 | t :: ts, 0, _ => ⟨rfl, rfl, rfl⟩
 | t :: ts, j + 1, h => by
   have ih := cells_at ts j (by simp at h; omega)
   have e : cells (t :: ts) = [.int .i64 t.1, .string t.2.1, .int .i64 t.2.2] ++ cells ts := rfl
   have e2 : tk (t :: ts) (j + 1) = tk ts j := rfl
   rw [e, e2]
   refine ⟨?_, ?_, ?_⟩
   ·rw [List.getElem?_append_right (by simp; omega)]
    rw [show (j + 1) * 3 - [Value.int .i64 t.1, .string t.2.1, .int .i64 t.2.2].length = j * 3 by simp; omega]; exact ih.1
   ·rw [List.getElem?_append_right (by simp; omega)]
    rw [show (j + 1) * 3 + 1 - [Value.int .i64 t.1, .string t.2.1, .int .i64 t.2.2].length = j * 3 + 1 by simp; omega]; exact ih.2.1
   ·rw [List.getElem?_append_right (by simp; omega)]
    rw [show (j + 1) * 3 + 2 - [Value.int .i64 t.1, .string t.2.1, .int .i64 t.2.2].length = j * 3 + 2 by simp; omega]; exact ih.2.2
end Tk
def Ts (w : World) (B : Nat) (A : Option Addr) (ts : List Tk.Tok) : Prop :=
 0 < ts.length -> ∃ b off, A = some ⟨b, off, none⟩ /\ b < B /\ ∀ j, j < ts.length -> w.cell? ⟨b, off + j * 3, none⟩ = some (.int .i64 (Tk.tk ts j).1) /\ w.cell? ⟨b, off + j * 3 + 1, none⟩ = some (.string (Tk.tk ts j).2.1) /\ w.cell? ⟨b, off + j * 3 + 2, none⟩ = some (.int .i64 (Tk.tk ts j).2.2)
section
variable {w w' : World} {B B' : Nat} {A : Option Addr} {ts : List Tk.Tok}
theorem Ts.keep (h : Ts w B A ts) (hk : ∀ p : Addr, p.block < B -> w'.cell? p = w.cell? p) : Ts w' B A ts := fun hl => by
 obtain ⟨b, off, e, hb, hc⟩ := h hl
 refine ⟨b, off, e, hb, fun j hj => ?_⟩
 obtain ⟨h0, h1, h2⟩ := hc j hj
 exact ⟨(hk ⟨b, _, none⟩ hb).trans h0, (hk ⟨b, _, none⟩ hb).trans h1, (hk ⟨b, _, none⟩ hb).trans h2⟩
theorem Ts.more (h : Ts w B A ts) (hB : B <= B') : Ts w B' A ts := fun hl => by
 obtain ⟨b, off, e, hb, hc⟩ := h hl
 exact ⟨b, off, e, by omega, hc⟩
theorem Ts.below (h : Ts w B A ts) (hb : Below B w w') : Ts w' B A ts := h.keep fun _ hp => hb.cell hp
theorem Ts.next (h : Ts w w.heap.size A ts) (hb : Below w.heap.size w w') : Ts w' w'.heap.size A ts := (h.below hb).more hb.size
theorem Ts.of_own {base : Nat} {e : TypeId} {c : Nat} (h : w.ownsRow base e 3 (.slice A ts.length c) ts.length (Tk.cells ts)) : Ts w w.heap.size A ts := fun hl => by
 obtain ⟨x, cap, hv, _, hlt⟩ := h.form hl
 have hA : A = some ⟨x, 0, none⟩ := by injection hv
 subst hA
 refine ⟨x, 0, rfl, hlt, fun j hj => ?_⟩
 obtain ⟨h0, h1, h2⟩ := Tk.cells_at ts j hj
 have c := h.cells (g := x) rfl
 have g0 := c _ _ h0
 have g1 := c _ _ h1
 have g2 := c _ _ h2
 rw [Addr.add_lit] at g0 g1 g2
 exact ⟨g0, g1, g2⟩
end
def Told3 (ts : List Tk.Tok) (w : World) (e : Ending) (w' : World) : Prop :=
 ∃ (A : Option Addr) (cap : Nat), e = .returned (.tuple #[.slice A ts.length cap, .int .i64 0]) /\ ts.length <= cap /\ Ts w' w'.heap.size A ts /\ Below w.heap.size w w'
theorem told3 {ts : List Tk.Tok} {w : World} {e : Ending} {w' : World} (h : Toks ts w e w') : Told3 ts w e w' := by
 obtain ⟨v, he, ho, hb⟩ := h
 obtain ⟨A, cap, rfl, hc⟩ := row_slice ho
 exact ⟨A, cap, he, hc, Ts.of_own ho, hb⟩
abbrev zeroTok : Obj := .cells #[.int .i64 0, .string ⟨#[]⟩, .int .i64 0] 61
def tokV (kind : Int) (t : ByteArray) (n : Int) : Value := .agg #[.int .i64 kind, .string t, .int .i64 n]
def I64 (n : Int) : Prop := -9223372036854775808 <= n /\ n <= 9223372036854775807
theorem tok3_cells {w : World} {k : Nat} {x0 x1 x2 : Value} {E : TypeId} (h : w.heap[k]? = some (.cells #[x0, x1, x2] E (0, 0))) :
 w.cell? ⟨k, 0, none⟩ = some x0 /\ w.cell? ⟨k, 1, none⟩ = some x1 /\ w.cell? ⟨k, 2, none⟩ = some x2 := by
 refine ⟨?_, ?_, ?_⟩ <;> simp [World.cell?, h]
theorem below_block {w w1 : World} {k : Nat} {o : Obj} (hb : Below w.heap.size w w1) (h : w.heap[k]? = some o) : w1.heap[k]? = some o := by
 have hlt : k < w.heap.size := by
  by_cases c : k < w.heap.size
  ·exact c
  ·rw [Array.getElem?_eq_none (by omega)] at h; cases h
 exact (hb.block k hlt).trans h
namespace Pr
open Tk
def Wf (us : List Tok) : Prop := ∀ j, j < us.length -> I64 (tk us j).1 /\ I64 (tk us j).2.2
end Pr
namespace Tk
def pushes (ds : List Int) (r : Int × List Int × Nat) : Int × List Int × Nat := (r.1, ds ++ r.2.1, r.2.2)
end Tk
def QuoAt (l : List Int) (e : Int) (k0 : Nat) (w : World) (v1 v7 : Value) (wr : World) : Prop :=
 ∃ (k : Nat) (ds : List Int), k <= l.length + 1 /\ v1 = .int .i64 k /\ Hid (Tk.qq l e k0 = Tk.pushes ds (Tk.qq l e k)) /\ wr.ownsRow (w.heap.size + 1) 3 1 v7 ds.length (nums .i64 ds) /\ Hid (Below (w.heap.size + 1) (w.alloc zeroTok) wr) /\ ds.length <= k
def Tokened (kind : Int) (t : ByteArray) (n : Int) (k : Nat) (w : World) (e : Ending) (w' : World) : Prop := e = .returned (.tuple #[tokV kind t n, .int .i64 k]) /\ Below w.heap.size w w'
theorem zero_size (w : World) : (w.alloc zeroTok).heap.size = w.heap.size + 1 := by simp
theorem quo_below {w wr w2 : World} (h : Below (w.heap.size + 1) (w.alloc zeroTok) wr) (h2 : Below wr.heap.size wr w2) : Below (w.heap.size + 1) (w.alloc zeroTok) w2 :=
 h.trans (h2.mono (by have := h.size; rw [zero_size] at this; exact this))
theorem tok_cells {w w2 : World} (h : Below (w.heap.size + 1) (w.alloc zeroTok) w2) :
 w2.cell? ⟨w.heap.size, 0, none⟩ = some (.int .i64 0) /\ w2.cell? ⟨w.heap.size, 1, none⟩ = some (.string ⟨#[]⟩) /\ w2.cell? ⟨w.heap.size, 2, none⟩ = some (.int .i64 0) /\
 w2.frozen? ⟨w.heap.size, 0, none⟩ = false /\ w2.frozen? ⟨w.heap.size, 1, none⟩ = false /\ w2.frozen? ⟨w.heap.size, 2, none⟩ = false := by
 have hc : ∀ j, w2.cell? ⟨w.heap.size, j, none⟩ = (w.alloc zeroTok).cell? ⟨w.heap.size, j, none⟩ := fun j => h.cell (p := ⟨w.heap.size, j, none⟩) (Nat.lt_succ_self _)
 have hf : ∀ j, w2.frozen? ⟨w.heap.size, j, none⟩ = (w.alloc zeroTok).frozen? ⟨w.heap.size, j, none⟩ := fun j => h.frozen (p := ⟨w.heap.size, j, none⟩) (Nat.lt_succ_self _)
 rw [hc, hc, hc, hf, hf, hf]
 unfold zeroTok
 refine ⟨?_, ?_, ?_, ?_, ?_, ?_⟩
 ·rw [World.cell?_alloc_mark]; rfl
 ·rw [World.cell?_alloc_mark]; rfl
 ·rw [World.cell?_alloc_mark]; rfl
 ·rw [World.frozen?_alloc_mark]; rfl
 ·rw [World.frozen?_alloc_mark]; rfl
 ·rw [World.frozen?_alloc_mark]; rfl
theorem tok_below {w w2 : World} (h : Below (w.heap.size + 1) (w.alloc zeroTok) w2) (x y z : Value) :
 Below w.heap.size w (((w2.setCell ⟨w.heap.size, 0, none⟩ x).setCell ⟨w.heap.size, 1, none⟩ y).setCell ⟨w.heap.size, 2, none⟩ z) :=
 (((((Below.refl _ w).alloc (Nat.le_refl _) _).trans (h.mono (Nat.le_succ _))).setCell (Nat.le_refl _) _).setCell (Nat.le_refl _) _).setCell (Nat.le_refl _) _
theorem quo_size {w wr : World} (h : Below (w.heap.size + 1) (w.alloc zeroTok) wr) : w.heap.size + 1 <= wr.heap.size := by have := h.size; rw [zero_size] at this; exact this
theorem quo_next {w wr w3 : World} {o : Obj} {k : IntKind} {E : TypeId} {v v' : Value} {ds : List Int} {x : Int} (hown : wr.ownsRow (w.heap.size + 1) E 1 v ds.length (nums k ds)) (hbel : Below (w.heap.size + 1) (w.alloc zeroTok) wr)
 (hown3 : w3.ownsRow (w.heap.size + 1) E 1 v' (ds.length + 1) (nums k ds ++ [.int k x])) (hgrow : (wr.alloc o).grownBy w3 v.ownBlock) :
 w3.ownsRow (w.heap.size + 1) E 1 v' (ds ++ [x]).length (nums k (ds ++ [x])) /\ Below (w.heap.size + 1) (w.alloc zeroTok) w3 := by
 refine ⟨?_, ?_⟩
 ·rw [nums_app, List.length_append]; exact hown3
 ·exact (hbel.alloc (quo_size hbel) o).grown hgrow (by have := quo_size hbel; simp; omega) (fun j hj => (hown.lt j hj).1)
theorem tok_ret {kind kind' n n' : Int} {t t' : ByteArray} {k k' : Int} (h1 : kind = kind') (h2 : t = t') (h3 : n = n') (h4 : k = k') : Ending.returned (.tuple #[tokV kind t n, .int .i64 k]) = .returned (.tuple #[tokV kind' t' n', .int .i64 k']) := by rw [h1, h2, h3, h4]
theorem PTab.alloc {w : World} (h : PTab w.heap.size w) (o : Obj) : PTab (w.alloc o).heap.size (w.alloc o) := h.next ((Below.refl _ _).alloc (Nat.le_refl _) o)
namespace Pr
end Pr
namespace Pr
open Ru Tk
def DelT (t : ByteArray) : Prop := ∃ c, Txt t [c] /\ Ok [c] /\ Del c
theorem dec_none {t : ByteArray} (h : t.size = 0) : Lib.decodeGo t = (65533, 0) := by
 show (if t.size = 0 then (65533, 0) else Utf8.decode t 0) = _
 rw [if_pos h]
theorem dec_some {t : ByteArray} {c : Int} {r : List Int} (h : Txt t (c :: r)) : ((Lib.decodeGo t).1 : Int) = c /\ (Lib.decodeGo t).2 = (Lib.encodeRuneZ c).length /\ t.size = (Lib.encodeRuneZ c).length + (wr r).length /\ 0 < t.size := by
 have hc := h.2 c (by simp)
 have hs := txt_size h
 rw [wr_cons, List.length_append] at hs
 have hp := enc_pos c
 have e : Lib.decodeGo t = Utf8.decode t 0 := by
  show (if t.size = 0 then (65533, 0) else Utf8.decode t 0) = _
  rw [if_neg (by omega)]
 obtain ⟨e1, e2, _⟩ := dec_at (t := t) (pos := 0) (r := wr r) hc (by rw [List.drop_zero, h.1, wr_cons])
 rw [e]
 exact ⟨e1, e2, hs, by omega⟩
theorem wr_pos {r : List Int} (h : r ≠ []) : 0 < (wr r).length := by
 have := wr_len_ge r
 have := List.length_pos_iff.2 h
 omega
inductive DelW (c : Int) : Prop
 | white (h : whiB c = true)
 | ff (h : whiB c = false) (h1 : c = 12)
 | cr (h : whiB c = false) (h1 : c = 13)
 | beg (h : whiB c = false) (h1 : c ≠ 12) (h2 : c ≠ 13) (h3 : begB c = true)
 | dig (h : whiB c = false) (h1 : c ≠ 12) (h2 : c ≠ 13) (h3 : begB c = false) (h4 : digB c = true)
 | rest (h : whiB c = false) (h1 : c ≠ 12) (h2 : c ≠ 13) (h3 : begB c = false) (h4 : digB c = false)
theorem delW (c : Int) : DelW c := by
 cases h : whiB c
 ·by_cases h1 : c = 12
  ·exact .ff h h1
  ·by_cases h2 : c = 13
   ·exact .cr h h2
   ·cases h3 : begB c
    ·cases h4 : digB c
     ·exact .rest h h1 h2 h3 h4
     ·exact .dig h h1 h2 h3 h4
    ·exact .beg h h1 h2 h3
 ·exact .white h
abbrev marks : ByteArray := ⟨#[40, 41, 91, 93, 123, 125, 58, 59, 44, 34, 39]⟩
theorem mem_marks {c : Int} (h0 : 0 <= c) (h1 : c < 128) : (0 <= Lib.indexByte marks.data.toList c.toNat.toUInt8) ↔ c = 40 ∨ c = 41 ∨ c = 91 ∨ c = 93 ∨ c = 123 ∨ c = 125 ∨ c = 58 ∨ c = 59 ∨ c = 44 ∨ c = 34 ∨ c = 39 := by
 have h := idx_neg c.toNat.toUInt8 marks.data.toList
 have hm : c.toNat.toUInt8 ∈ marks.data.toList ↔ c = 40 ∨ c = 41 ∨ c = 91 ∨ c = 93 ∨ c = 123 ∨ c = 125 ∨ c = 58 ∨ c = 59 ∨ c = 44 ∨ c = 34 ∨ c = 39 := by
  have e : ∀ n : UInt8, n.toNat < 128 -> (c.toNat.toUInt8 = n ↔ c = (n.toNat : Int)) := fun n hn => by
   have ht : c.toNat.toUInt8.toNat = c.toNat := by
    rw [show c.toNat.toUInt8.toNat = c.toNat % 256 from UInt8.toNat_ofNat']; omega
   constructor
   ·intro e
    have := congrArg UInt8.toNat e
    omega
   ·intro e
    exact UInt8.toNat_inj.1 (by omega)
  show c.toNat.toUInt8 ∈ [40, 41, 91, 93, 123, 125, 58, 59, 44, 34, 39] ↔ _
  simp only [List.mem_cons, List.not_mem_nil, or_false]
  rw [e 40 (by decide), e 41 (by decide), e 91 (by decide), e 93 (by decide), e 123 (by decide), e 125 (by decide), e 58 (by decide), e 59 (by decide), e 44 (by decide), e 34 (by decide), e 39 (by decide)]
  rfl
 rw [<- hm]
 constructor
 ·intro h2
  by_cases h3 : c.toNat.toUInt8 ∈ marks.data.toList
  ·exact h3
  ·have := h.2 h3; omega
 ·intro h2
  by_cases h3 : Lib.indexByte marks.data.toList c.toNat.toUInt8 < 0
  ·exact absurd h2 (h.1 h3)
  ·omega
theorem del_iff {c : Int} (h : whiB c = false) (h1 : c ≠ 12) (h2 : c ≠ 13) (h3 : begB c = false) (h4 : digB c = false) : Del c ↔ ¬ (c = 40 ∨ c = 41 ∨ c = 91 ∨ c = 93 ∨ c = 123 ∨ c = 125 ∨ c = 58 ∨ c = 59 ∨ c = 44 ∨ c = 34 ∨ c = 39) := by
 unfold whiB at h
 unfold digB at h4
 have h := of_decide_eq_false h
 have h4 := of_decide_eq_false h4
 unfold Del
 rw [h3]
 constructor
 ·intro hd; omega
 ·intro hd; exact ⟨rfl, by omega⟩
end Pr
theorem delimits_any (t : ByteArray) (b : Bool) (hb : b = true ↔ Pr.DelT t) (hm : t.size <= 9223372036854775807) (w : World) (hT : UTab w.heap.size w) : Calls Tryz.prog 131 #[.string t] w (Bo b w) := by
 have C1 := Lib.hid (Tryz.utf8_DecodeRuneInString t w hT.1)
 have HT := Lib.hid hT
 clear hT
 by_cases hs : Pr.Snd t
 ·obtain ⟨cs, hx, ho⟩ := hs
  have CS : Hid (∀ w1, Below w.heap.size w w1 -> Calls Tryz.prog 130 #[.string t] w1 (Bo true w1)) := Lib.hid fun w1 h1 => sound_any t true (by simp; exact ⟨cs, hx, ho⟩) hm w1 (HT.out.next h1)
  rcases cs with _ | ⟨c, _ | ⟨d, r⟩⟩
  ·have h0 : t.size = 0 := (Pr.txt_nil hx).2 rfl
   obtain rfl : b = false := by
    rw [Bool.eq_false_iff]
    intro hh
    obtain ⟨c, h1, _⟩ := hb.1 hh
    have := (Pr.dec_some h1).2.2.2
    omega
   rw [Pr.dec_none h0] at C1
   clear hb hx ho CS HT
   go_enter Tryz.func131, Tryz.ntmps131
   go_wp2_with (go_at_call 185; ((with_reducible refine (C1.out).mono ?_); rintro e w1 ⟨rfl, b1⟩))
   go_ret
   exact ⟨rfl, b1⟩
  ·obtain ⟨d1, d2, d3, d4⟩ := Pr.dec_some hx
   have hl : (Lib.decodeGo t).2 = t.size := by rw [d2, d3]; simp [Pr.wr_nil]
   rw [d1, hl] at C1
   have his := Pr.Is_lt (ho c (by simp)).1
   have hbd : b = true ↔ Pr.Del c := by
    rw [hb]
    constructor
    ·rintro ⟨c', h1, _, h3⟩
     have := Pr.Txt.one hx h1
     injection this with e _
     rw [e]; exact h3
    ·intro h; exact ⟨c, hx, ho, h⟩
   have K1 := Lib.hid (fun w => white_any c w)
   have K2 := Lib.hid (fun w => begins_any c w)
   have K3 := Lib.hid (fun w => isdigit_any c w)
   clear hb d1 d2 d3 hl hx
   have hlt : decide ((t.size : Int) < t.size) = false := decide_eq_false (by omega)
   have hz := Ru.eq_f (show ¬ (t.size : Int) = 0 by omega)
   rcases Pr.delW c with h | ⟨h, h1⟩ | ⟨h, h1⟩ | ⟨h, h1, h2, h3⟩ | ⟨h, h1, h2, h3, h4⟩ | ⟨h, h1, h2, h3, h4⟩
   ·obtain rfl : b = false := by
     rw [Bool.eq_false_iff]
     intro hh
     have hD := hbd.1 hh
     unfold Pr.Del at hD
     unfold Ru.whiB at h
     have := of_decide_eq_true h
     omega
    rw [h] at K1
    clear hbd h ho his
    go_enter Tryz.func131, Tryz.ntmps131
    go_wp2_with (first | (go_at_call 185; ((with_reducible refine (C1.out).mono ?_); rintro e w1 ⟨rfl, b1⟩)) | (go_at_call 130; ((with_reducible refine (CS.out _ b1).mono ?_); rintro e w2 ⟨rfl, b2⟩)) | (go_at_call 86; ((with_reducible refine (K1.out _).mono ?_); rintro e w3 ⟨rfl, rfl⟩)) | (go_at_call 157; ((with_reducible refine (K2.out _).mono ?_); rintro e w3 ⟨rfl, rfl⟩)) | (go_at_call 158; ((with_reducible refine (K3.out _).mono ?_); rintro e w3 ⟨rfl, rfl⟩)) | (go_at_call 186; ((with_reducible refine (K4.out _).mono ?_); rintro e w3 ⟨rfl, hw3⟩; rw [hw3])))
    go_ret
    exact ⟨rfl, below_next b1 b2⟩
   ·obtain rfl : b = false := by
     rw [Bool.eq_false_iff]
     intro hh
     have hD := hbd.1 hh
     unfold Pr.Del at hD
     omega
    rw [h] at K1
    have q := Ru.eq_t h1
    clear hbd h ho his h1
    go_enter Tryz.func131, Tryz.ntmps131
    go_wp2_with (first | (go_at_call 185; ((with_reducible refine (C1.out).mono ?_); rintro e w1 ⟨rfl, b1⟩)) | (go_at_call 130; ((with_reducible refine (CS.out _ b1).mono ?_); rintro e w2 ⟨rfl, b2⟩)) | (go_at_call 86; ((with_reducible refine (K1.out _).mono ?_); rintro e w3 ⟨rfl, rfl⟩)) | (go_at_call 157; ((with_reducible refine (K2.out _).mono ?_); rintro e w3 ⟨rfl, rfl⟩)) | (go_at_call 158; ((with_reducible refine (K3.out _).mono ?_); rintro e w3 ⟨rfl, rfl⟩)) | (go_at_call 186; ((with_reducible refine (K4.out _).mono ?_); rintro e w3 ⟨rfl, hw3⟩; rw [hw3])))
    go_ret
    exact ⟨rfl, below_next b1 b2⟩
   ·obtain rfl : b = false := by
     rw [Bool.eq_false_iff]
     intro hh
     have hD := hbd.1 hh
     unfold Pr.Del at hD
     omega
    rw [h] at K1
    have q0 := Ru.eq_f (show ¬ c = 12 by omega)
    have q := Ru.eq_t h1
    clear hbd h ho his h1
    go_enter Tryz.func131, Tryz.ntmps131
    go_wp2_with (first | (go_at_call 185; ((with_reducible refine (C1.out).mono ?_); rintro e w1 ⟨rfl, b1⟩)) | (go_at_call 130; ((with_reducible refine (CS.out _ b1).mono ?_); rintro e w2 ⟨rfl, b2⟩)) | (go_at_call 86; ((with_reducible refine (K1.out _).mono ?_); rintro e w3 ⟨rfl, rfl⟩)) | (go_at_call 157; ((with_reducible refine (K2.out _).mono ?_); rintro e w3 ⟨rfl, rfl⟩)) | (go_at_call 158; ((with_reducible refine (K3.out _).mono ?_); rintro e w3 ⟨rfl, rfl⟩)) | (go_at_call 186; ((with_reducible refine (K4.out _).mono ?_); rintro e w3 ⟨rfl, hw3⟩; rw [hw3])))
    go_ret
    exact ⟨rfl, below_next b1 b2⟩
   ·obtain rfl : b = false := by
     rw [Bool.eq_false_iff]
     intro hh
     have hD := hbd.1 hh
     unfold Pr.Del at hD
     rw [hD.1] at h3; cases h3
    rw [h] at K1
    rw [h3] at K2
    have q0 := Ru.eq_f h1
    have q := Ru.eq_f h2
    clear hbd h ho his h1 h2 h3
    go_enter Tryz.func131, Tryz.ntmps131
    go_wp2_with (first | (go_at_call 185; ((with_reducible refine (C1.out).mono ?_); rintro e w1 ⟨rfl, b1⟩)) | (go_at_call 130; ((with_reducible refine (CS.out _ b1).mono ?_); rintro e w2 ⟨rfl, b2⟩)) | (go_at_call 86; ((with_reducible refine (K1.out _).mono ?_); rintro e w3 ⟨rfl, rfl⟩)) | (go_at_call 157; ((with_reducible refine (K2.out _).mono ?_); rintro e w3 ⟨rfl, rfl⟩)) | (go_at_call 158; ((with_reducible refine (K3.out _).mono ?_); rintro e w3 ⟨rfl, rfl⟩)) | (go_at_call 186; ((with_reducible refine (K4.out _).mono ?_); rintro e w3 ⟨rfl, hw3⟩; rw [hw3])))
    go_ret
    exact ⟨rfl, below_next b1 b2⟩
   ·obtain rfl : b = false := by
     rw [Bool.eq_false_iff]
     intro hh
     have hD := hbd.1 hh
     unfold Pr.Del at hD
     unfold Ru.digB at h4
     have := of_decide_eq_true h4
     omega
    rw [h] at K1
    rw [h3] at K2
    rw [h4] at K3
    have q0 := Ru.eq_f h1
    have q := Ru.eq_f h2
    clear hbd h ho his h1 h2 h3 h4
    go_enter Tryz.func131, Tryz.ntmps131
    go_wp2_with (first | (go_at_call 185; ((with_reducible refine (C1.out).mono ?_); rintro e w1 ⟨rfl, b1⟩)) | (go_at_call 130; ((with_reducible refine (CS.out _ b1).mono ?_); rintro e w2 ⟨rfl, b2⟩)) | (go_at_call 86; ((with_reducible refine (K1.out _).mono ?_); rintro e w3 ⟨rfl, rfl⟩)) | (go_at_call 157; ((with_reducible refine (K2.out _).mono ?_); rintro e w3 ⟨rfl, rfl⟩)) | (go_at_call 158; ((with_reducible refine (K3.out _).mono ?_); rintro e w3 ⟨rfl, rfl⟩)) | (go_at_call 186; ((with_reducible refine (K4.out _).mono ?_); rintro e w3 ⟨rfl, hw3⟩; rw [hw3])))
    go_ret
    exact ⟨rfl, below_next b1 b2⟩
   ·have hlo : c < 128 := by
     by_cases h5 : c < 128
     ·exact h5
     ·exfalso
      have hi := (ho c (by simp)).1
      unfold Ru.Is at hi
      unfold Ru.begB at h3
      have := of_decide_eq_false h3
      omega
    have K4 := Lib.hid (fun w => Tryz.strings_ContainsRune_ascii Pr.marks c w his.1 hlo)
    have hmk := Pr.mem_marks his.1 hlo
    have hdl := Pr.del_iff h h1 h2 h3 h4
    rw [hdl, <- hmk] at hbd
    rw [h] at K1
    rw [h3] at K2
    rw [h4] at K3
    have q0 := Ru.eq_f h1
    have q := Ru.eq_f h2
    clear hdl hmk h ho his h1 h2 h3 h4 hlo
    generalize Lib.indexByte Pr.marks.data.toList c.toNat.toUInt8 = x at *
    by_cases hx : 0 <= x
    ·obtain rfl : b = false := by
      rw [Bool.eq_false_iff]
      intro hh
      exact hbd.1 hh hx
     rw [decide_eq_true hx] at K4
     clear hbd hx
     go_enter Tryz.func131, Tryz.ntmps131
     go_wp2_with (first | (go_at_call 185; ((with_reducible refine (C1.out).mono ?_); rintro e w1 ⟨rfl, b1⟩)) | (go_at_call 130; ((with_reducible refine (CS.out _ b1).mono ?_); rintro e w2 ⟨rfl, b2⟩)) | (go_at_call 86; ((with_reducible refine (K1.out _).mono ?_); rintro e w3 ⟨rfl, rfl⟩)) | (go_at_call 157; ((with_reducible refine (K2.out _).mono ?_); rintro e w3 ⟨rfl, rfl⟩)) | (go_at_call 158; ((with_reducible refine (K3.out _).mono ?_); rintro e w3 ⟨rfl, rfl⟩)) | (go_at_call 186; ((with_reducible refine (K4.out _).mono ?_); rintro e w3 ⟨rfl, hw3⟩; rw [hw3])))
     go_ret
     exact ⟨rfl, below_next b1 b2⟩
    ·obtain rfl : b = true := hbd.2 hx
     rw [decide_eq_false hx] at K4
     clear hbd hx
     go_enter Tryz.func131, Tryz.ntmps131
     go_wp2_with (first | (go_at_call 185; ((with_reducible refine (C1.out).mono ?_); rintro e w1 ⟨rfl, b1⟩)) | (go_at_call 130; ((with_reducible refine (CS.out _ b1).mono ?_); rintro e w2 ⟨rfl, b2⟩)) | (go_at_call 86; ((with_reducible refine (K1.out _).mono ?_); rintro e w3 ⟨rfl, rfl⟩)) | (go_at_call 157; ((with_reducible refine (K2.out _).mono ?_); rintro e w3 ⟨rfl, rfl⟩)) | (go_at_call 158; ((with_reducible refine (K3.out _).mono ?_); rintro e w3 ⟨rfl, rfl⟩)) | (go_at_call 186; ((with_reducible refine (K4.out _).mono ?_); rintro e w3 ⟨rfl, hw3⟩; rw [hw3])))
     go_ret
     exact ⟨rfl, below_next b1 b2⟩
  ·obtain ⟨d1, d2, d3, d4⟩ := Pr.dec_some hx
   have hp := Pr.wr_pos (show d :: r ≠ [] by simp)
   obtain rfl : b = false := by
    rw [Bool.eq_false_iff]
    intro hh
    obtain ⟨c', h1, _⟩ := hb.1 hh
    have := Pr.Txt.one hx h1
    simp at this
   rw [d1] at C1
   have hlt : decide ((Lib.decodeGo t).2 < t.size) = true := decide_eq_true (by omega)
   have hz := Ru.eq_f (show ¬ ((Lib.decodeGo t).2 : Int) = 0 by have := Pr.enc_pos c; omega)
   clear hb hx ho CS HT d1 d2 d3 d4 hp
   generalize (Lib.decodeGo t).2 = sz at *
   go_enter Tryz.func131, Tryz.ntmps131
   go_wp2_with (go_at_call 185; ((with_reducible refine (C1.out).mono ?_); rintro e w1 ⟨rfl, b1⟩))
   go_ret
   exact ⟨rfl, b1⟩
 ·obtain rfl : b = false := by
   rw [Bool.eq_false_iff]
   intro hh
   obtain ⟨c, h1, h2, _⟩ := hb.1 hh
   exact hs ⟨_, h1, h2⟩
  have CS : Hid (∀ w1, Below w.heap.size w w1 -> Calls Tryz.prog 130 #[.string t] w1 (Bo false w1)) := Lib.hid fun w1 h1 => sound_any t false (by simp; exact hs) hm w1 (HT.out.next h1)
  generalize ((Lib.decodeGo t).1 : Int) = c at *
  generalize (Lib.decodeGo t).2 = sz at *
  clear hb hs HT
  by_cases hz : (sz : Int) = 0
  ·have hz' := Ru.eq_t hz
   clear hz
   go_enter Tryz.func131, Tryz.ntmps131
   go_wp2_with (go_at_call 185; ((with_reducible refine (C1.out).mono ?_); rintro e w1 ⟨rfl, b1⟩))
   go_ret
   exact ⟨rfl, b1⟩
  ·have hz' := Ru.eq_f hz
   clear hz
   by_cases hl : sz < t.size
   ·have hl' : decide (sz < t.size) = true := decide_eq_true hl
    clear hl
    go_enter Tryz.func131, Tryz.ntmps131
    go_wp2_with (go_at_call 185; ((with_reducible refine (C1.out).mono ?_); rintro e w1 ⟨rfl, b1⟩))
    go_ret
    exact ⟨rfl, b1⟩
   ·have hl' : decide (sz < t.size) = false := decide_eq_false hl
    clear hl
    go_enter Tryz.func131, Tryz.ntmps131
    go_wp2_with (first | (go_at_call 185; ((with_reducible refine (C1.out).mono ?_); rintro e w1 ⟨rfl, b1⟩)) | (go_at_call 130; ((with_reducible refine (CS.out _ b1).mono ?_); rintro e w2 ⟨rfl, b2⟩)))
    go_ret
    exact ⟨rfl, below_next b1 b2⟩
end Go.Proofs.YtkcabpjfgbghjaaGreatDoor
