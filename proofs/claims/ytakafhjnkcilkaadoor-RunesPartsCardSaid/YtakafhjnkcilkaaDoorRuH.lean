/-
  The walk of beginning: how many bytes the longest beginning has.
-/
import Derived.Test.YtakafhjnkcilkaaDoorRuG
namespace Go.Proofs.YtakafhjnkcilkaaDoor
open Go.RowKit Go.Lib

/-- what beginning tells -/
def Begun (n x0 x1 x2 : Nat) (w : World) (e : Ending) (w' : World) : Prop :=
  ∃ k : Nat, e = .returned (.int .i64 k) ∧ 1 ≤ k ∧ k ≤ n ∧ (k = 1 ∨ Ru.full k x0 x1 x2 = false) ∧ (k = n ∨ Ru.full (k + 1 : Int) x0 x1 x2 = true) ∧ Below w.heap.size w w'
def BegAt (n x0 x1 x2 : Nat) (w : World) (v : Value) (wr : World) : Prop :=
  ∃ k : Nat, v = .int .i64 k ∧ 1 ≤ k ∧ k ≤ n ∧ Hid (k = 1 ∨ Ru.full k x0 x1 x2 = false) ∧ Below w.heap.size w wr

set_option maxHeartbeats 1000000 in
set_option maxRecDepth 100000 in
theorem beginning_any (n x0 x1 x2 b off cap : Nat) (w : World) (hn : 1 ≤ n) (hm : n ≤ 9223372036854775807) (hcap : n ≤ cap) (hT : Tab w.heap.size w) (l0 : x0 < 256)
    (hs0 : w.cell? ⟨b, off, none⟩ = some (.int .u8 x0)) (hq1 : 1 < n → w.cell? ⟨b, off + 1, none⟩ = some (.int .u8 x1)) (hq2 : 2 < n → w.cell? ⟨b, off + 2, none⟩ = some (.int .u8 x2)) :
    Calls Tryd.prog 38 #[.slice (some ⟨b, off, none⟩) n cap] w (Begun n x0 x1 x2 w) := by
  have hb : b < w.heap.size := World.block_lt_of_cell? w _ hs0
  have C : Hid (∀ (k : Nat) (wr : World), 1 ≤ k → k < n → Below w.heap.size w wr → Calls Tryd.prog 43 #[.slice (some ⟨b, off, none⟩) (k + 1) cap] wr fun e w' => e = .returned (.bool (Ru.full (k + 1 : Int) x0 x1 x2)) ∧ Below w.heap.size w w') := Lib.hid fun k wr h1 h2 hbel => by
    refine (full_any (k + 1) x0 x1 x2 b off cap wr (by omega) (by omega) (hT.below hbel).1 l0 ((hbel.cell (p := ⟨b, off, none⟩) hb).trans hs0) (fun h => (hbel.cell (p := ⟨b, off + 1, none⟩) hb).trans (hq1 (by omega))) (fun h => (hbel.cell (p := ⟨b, off + 2, none⟩) hb).trans (hq2 (by omega)))).mono ?_
    rintro e w' ⟨he, hb'⟩
    exact ⟨he, hbel.trans (hb'.mono hbel.size)⟩
  clear hT hs0 hq1 hq2 hb
  go_enter Tryd.func38, Tryd.ntmps38
  go_wp2_with fail
  go_loopw [3] (fun v wr => BegAt n x0 x1 x2 w v wr) (fun v _ => n - (RowKit.intOf v).toNat)
  case atStart => exact ⟨1, rfl, Nat.le_refl _, hn, Lib.hid (Or.inl rfl), Below.refl _ _⟩
  case round =>
    obtain ⟨k, rfl, k1, k2, hf, hbel⟩ := hrel
    have HB := Lib.hid hbel
    clear hbel
    by_cases hlt : k < n
    · have CK := C.out k
      have C1 : Hid (∀ wr : World, Below w.heap.size w wr → Calls Tryd.prog 43 #[.slice (some ⟨b, off, none⟩) (k + 1) cap] wr fun e w' => e = .returned (.bool (Ru.full (k + 1 : Int) x0 x1 x2)) ∧ Below w.heap.size w w') := Lib.hid fun wr h => CK wr k1 hlt h
      clear CK C
      cases hfu : Ru.full (k + 1 : Int) x0 x1 x2
      · rw [hfu] at C1
        have HF := Lib.hid hfu
        clear hfu
        go_wp2_with (go_at_call 43; ((with_reducible refine (C1.out _ HB.out).mono ?_); rintro e w' ⟨rfl, hb'⟩))
        go_roundw
        case rel => exact ⟨k + 1, by go_num, by omega, by omega, Lib.hid (Or.inr (by have := HF.out; simpa using this)), hb'⟩
        case measure => simp [RowKit.intOf]; omega
      · rw [hfu] at C1
        have HF := Lib.hid hfu
        clear hfu
        go_wp2_with (go_at_call 43; ((with_reducible refine (C1.out _ HB.out).mono ?_); rintro e w' ⟨rfl, hb'⟩))
        go_ret
        exact ⟨k, rfl, k1, k2, hf.out, Or.inr HF.out, hb'⟩
    · have hkn : k = n := by omega
      go_wp2_with fail
      go_ret
      exact ⟨k, rfl, k1, k2, hf.out, Or.inl hkn, HB.out⟩
end Go.Proofs.YtakafhjnkcilkaaDoor
