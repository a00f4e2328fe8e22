/-
  The walks of the laws: RunesRead, RunesWrite, RunesBack, RunesAgain.
-/
import Derived.Test.YtakafhjnkcilkaaDoorRuQ
import Derived.Test.YtakafhjnkcilkaaDoorRuK
namespace Go.Proofs.YtakafhjnkcilkaaDoor
open Go.RowKit

/-- a law's answer -/
def Yes (w : World) (e : Ending) (w' : World) : Prop := e = .returned (.bool true) ∧ Below w.heap.size w w'
/-- a slice that reads as numbers -/
def Told (k : IntKind) (l : List Int) (w : World) (e : Ending) (w' : World) : Prop :=
  ∃ (A : Option Addr) (cap : Nat), e = .returned (.slice A l.length cap) ∧ l.length ≤ cap ∧ Bs w' w'.heap.size k A l ∧ Below w.heap.size w w'
theorem own_form {w : World} {B : Nat} {k : IntKind} {E : TypeId} {l : List Int} {v : Value} (h : w.ownsRow B E 1 v l.length (nums k l)) : ∃ A cap, v = .slice A l.length cap ∧ l.length ≤ cap ∧ Bs w w.heap.size k A l := by
  rcases h.2 with ⟨rfl, h0⟩ | ⟨x, cap, cur, rfl, _, _, hc, _⟩
  · exact ⟨none, 0, by rw [h0], by omega, fun hl => by omega⟩
  · exact ⟨_, cap, rfl, hc, Bs.of_own h⟩
theorem told {k : IntKind} {E : TypeId} {l : List Int} {w : World} {e : Ending} {w' : World} (h : Made k E l w e w') : Told k l w e w' := by
  obtain ⟨v, rfl, hown, hb⟩ := h
  obtain ⟨A, cap, rfl, hc, hB⟩ := own_form hown
  exact ⟨A, cap, rfl, hc, hB, hb⟩
theorem below_next {w w1 w2 : World} (h : Below w.heap.size w w1) (h2 : Below w1.heap.size w1 w2) : Below w.heap.size w w2 := h.trans (h2.mono h.size)
theorem Tab.next {w w1 : World} (h : Tab w.heap.size w) (hb : Below w.heap.size w w1) : Tab w1.heap.size w1 := ⟨(h.below hb).1, by have := hb.size; have := h.2; omega⟩
theorem Bs.next {w w1 : World} {k : IntKind} {A : Option Addr} {l : List Int} (h : Bs w w.heap.size k A l) (hb : Below w.heap.size w w1) : Bs w1 w1.heap.size k A l := (h.below hb).more hb.size

namespace Ru
theorem rd_len' (l : List Int) : (rd l).length ≤ l.length := rd_len _ _
theorem rd_ok {l : List Int} (h : By l) : ∀ c ∈ rd l, Is c ∧ c ≠ 0 ∧ c ≠ 12 ∧ c ≠ 13 := rd_is _ _ h
theorem ok_range {l : List Int} (h : ∀ c ∈ l, Is c ∧ c ≠ 0 ∧ c ≠ 12 ∧ c ≠ 13) : ∀ c ∈ l, -2147483648 ≤ c ∧ c ≤ 2147483647 := fun c hc => by
  have := (h c hc).1
  unfold Is at this
  omega
end Ru

theorem read_told (l : List Int) (hl : Ru.By l) (A : Option Addr) (cap : Nat) (w : World) (hm : l.length ≤ 65536) (hcap : l.length ≤ cap) (hT : Tab w.heap.size w) (hA : Bs w w.heap.size .u8 A l) :
    Calls Tryd.prog 13 #[.slice A l.length cap] w (Made .i32 21 (Ru.rd l) w) := by
  by_cases h0 : 0 < l.length
  · obtain ⟨b, off, rfl, hb, hp⟩ := hA h0
    exact read_cons l hl h0 b off cap w hm hcap hT hb hp
  · have : l = [] := List.eq_nil_of_length_eq_zero (by omega)
    subst this
    exact read_nil A cap w

/-- the helpers, for whatever world -/
theorem ints_is : Hid (∀ (l : List Int) (A : Option Addr) (cap : Nat) (w : World), l.length ≤ 65536 → l.length ≤ cap → (∀ c ∈ l, -2147483648 ≤ c ∧ c ≤ 2147483647) → Bs w w.heap.size .i32 A l → Calls Tryd.prog 12 #[.slice A l.length cap] w (Told .i64 l w)) :=
  Lib.hid fun l A cap w h1 h2 h3 h4 => (ints_any l A cap w h1 h2 h3 h4).mono fun _ _ h => told h
theorem same_is : Hid (∀ (a b : List Int) (A C : Option Addr) (ca cb : Nat) (w : World), a.length ≤ 65536 → b.length ≤ 65536 → Bs w w.heap.size .i64 A a → Bs w w.heap.size .i64 C b → Calls Tryd.prog 11 #[.slice A a.length ca, .slice C b.length cb] w fun e w' => e = .returned (.bool (decide (a = b))) ∧ Below w.heap.size w w') :=
  Lib.hid same_any
theorem same_yes : Hid (∀ (a : List Int) (A C : Option Addr) (ca cb : Nat) (w : World), a.length ≤ 65536 → Bs w w.heap.size .i64 A a → Bs w w.heap.size .i64 C a → Calls Tryd.prog 11 #[.slice A a.length ca, .slice C a.length cb] w (Yes w)) :=
  Lib.hid fun a A C ca cb w h1 h2 h3 => (same_any a a A C ca cb w h1 h1 h2 h3).mono fun e w' h => ⟨by rw [h.1]; simp, h.2⟩
theorem awake_is : Hid (∀ w : World, Tab w.heap.size w → Calls Tryd.prog 10 #[] w (Yes w)) := Lib.hid awake_any

set_option maxHeartbeats 1000000 in
set_option maxRecDepth 100000 in
theorem runesRead_walk (l : List Int) (hl : Ru.By l) (A : Option Addr) (cap : Nat) (w : World) (hm : l.length ≤ cap) (hT : Tab w.heap.size w) (hA : Bs w w.heap.size .u8 A l) :
    Calls Tryd.prog 3 #[.slice A l.length cap] w (Yes w) := by
  have CA := awake_is
  have HT := Lib.hid hT
  have HA := Lib.hid hA
  have HL := Lib.hid hl
  clear hT hA hl
  by_cases h2 : l.length ≤ 2000
  · have C1 : Hid (Calls Tryd.prog 13 #[.slice A l.length cap] w (Told .i32 (Ru.rd l) w)) := Lib.hid ((read_told l HL.out A cap w (by omega) hm HT.out HA.out).mono fun _ _ h => told h)
    have C2 : Hid (∀ w1 : World, Below w.heap.size w w1 → Calls Tryd.prog 14 #[.slice A l.length cap] w1 (Told .i64 (Ru.rd l) w1)) := Lib.hid fun w1 hb => (rread_any l HL.out A cap w1 (by omega) hm (HA.out.next hb)).mono fun _ _ h => told h
    have hr0 := Ru.rd_len' l
    have HR := Lib.hid (Ru.ok_range (Ru.rd_ok HL.out))
    have hr1 : (Ru.rd l).length ≤ 65536 := by omega
    generalize Ru.rd l = r at *
    have CI := ints_is
    have CS := same_yes
    clear hr0 HL HA
    go_enter Tryd.func3, Tryd.ntmps3
    go_wp2_with (first | (go_at_call 13; ((with_reducible refine (C1.out).mono ?_); rintro e w1 ⟨A1, c1, rfl, k1, B1, b1⟩)) | (go_at_call 12; ((with_reducible refine (CI.out _ _ _ _ hr1 k1 HR.out B1).mono ?_); rintro e w2 ⟨A2, c2, rfl, k2, B2, b2⟩)) | (go_at_call 14; ((with_reducible refine (C2.out _ (below_next b1 b2)).mono ?_); rintro e w3 ⟨A3, c3, rfl, k3, B3, b3⟩)) | (go_at_call 11; ((with_reducible refine (CS.out _ _ _ _ _ _ hr1 (B2.next b3) B3).mono ?_); rintro e w4 ⟨rfl, b4⟩)) | (go_at_call 10; ((with_reducible refine (CA.out _ (HT.out.next (below_next (below_next (below_next b1 b2) b3) b4))).mono ?_); rintro e w5 ⟨rfl, b5⟩)))
    go_ret
    exact ⟨rfl, below_next (below_next (below_next (below_next b1 b2) b3) b4) b5⟩
  · clear HL HA
    go_enter Tryd.func3, Tryd.ntmps3
    go_wp2_with (go_at_call 10; ((with_reducible refine (CA.out _ HT.out).mono ?_); rintro e w5 ⟨rfl, b5⟩))
    go_ret
    exact ⟨rfl, b5⟩
end Go.Proofs.YtakafhjnkcilkaaDoor
