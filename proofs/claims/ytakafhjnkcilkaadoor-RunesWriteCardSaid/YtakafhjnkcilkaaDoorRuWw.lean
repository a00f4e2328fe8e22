/-
  The walk of the law RunesWrite.
-/
import Derived.Test.YtakafhjnkcilkaaDoorRuBw
import Derived.Laws.BytesArg
import Derived.Deep.RegionWith
namespace Go.Proofs.YtakafhjnkcilkaaDoor
open Go.RowKit

theorem drew_one (w : World) : Below w.heap.size w w.drew := (Below.refl _ _).drew
theorem Bs.drew {w : World} {B : Nat} {k : IntKind} {A : Option Addr} {l : List Int} (h : Bs w B k A l) : Bs w.drew B k A l := h
theorem conv_told {w : World} {B : Nat} {A : Option Addr} {l : List Int} (c : Nat) (h : Bs w B .u8 A l) : (convert 22 9 (.slice A l.length c)).run Tryd.prog w = .ok (.string (strOfNums l)) w := by
  by_cases h0 : 0 < l.length
  · obtain ⟨b, off, rfl, _, hp⟩ := h h0
    exact run_convert_bytes_arg w 22 5 Tryd.underlying22 Tryd.underlying5 b off l.length c l rfl hp 9 Tryd.underlying9
  · have hl : l = [] := List.eq_nil_of_length_eq_zero (by omega)
    subst hl
    cases A with
    | none => exact run_convert_bytes_nil w 22 5 Tryd.underlying22 Tryd.underlying5 0 c 9 Tryd.underlying9
    | some a => exact run_convert_bytes_back w 22 9 5 a c [] Tryd.underlying22 Tryd.underlying5 Tryd.underlying9 (fun j hj => by cases hj)

set_option maxHeartbeats 4000000 in
set_option maxRecDepth 100000 in
theorem runesWrite_walk (l : List Int) (hr : ∀ c ∈ l, -2147483648 ≤ c ∧ c ≤ 2147483647) (A : Option Addr) (cap : Nat) (w : World) (hm : l.length ≤ cap) (hT : Tab w.heap.size w) (hA : Bs w w.heap.size .i32 A l) :
    Calls Tryd.prog 4 #[.slice A l.length cap] w (Yes w) := by
  have CA := awake_is
  have HT := Lib.hid hT
  have HA := Lib.hid hA
  have HR := Lib.hid hr
  clear hT hA hr
  by_cases h2 : l.length ≤ 500
  · have hw1 := Ru.wr_len l
    have hl1 : l.length ≤ 65536 := by omega
    have C1 : Hid (∀ w0 : World, Below w.heap.size w w0 → Calls Tryd.prog 15 #[.slice A l.length cap] w0 (Told .u8 (Ru.wr l) w0)) := Lib.hid fun w0 h => write_told l A cap w0 hl1 hm HR.out (HA.out.next h)
    have C2 : Hid (∀ (A2 : Option Addr) (c2 : Nat) (w2 : World), l.length ≤ c2 → Bs w2 w2.heap.size .i64 A2 l → Calls Tryd.prog 16 #[.slice A2 l.length c2] w2 (Told .u8 (Ru.wr l) w2)) := Lib.hid fun A2 c2 w2 h1 h2 => (rwrite_any l A2 c2 w2 hl1 h1 h2).mono fun _ _ h => told h
    have CI := ints_is
    generalize Ru.wr l = r at *
    go_enter Tryd.func4, Tryd.ntmps4
    go_wp2_with fail
    go_region_with (first | (go_at_call 15; ((with_reducible refine (C1.out _ (drew_one w)).mono ?_); rintro e w1 ⟨A1, c1, rfl, k1, B1, b1⟩; have cv1 := conv_told c1 B1; have cd1 := conv_told c1 B1.drew)) | (go_at_call 12; ((with_reducible refine (CI.out _ A cap _ hl1 hm HR.out (HA.out.next (below_next (drew_one w) b1))).mono ?_); rintro e w2 ⟨A2, c2, rfl, k2, B2, b2⟩; have cv2 := conv_told c1 (B1.next b2); have cd2 := conv_told c1 (B1.next b2).drew)) | (go_at_call 16; ((with_reducible refine (C2.out _ _ _ k2 B2).mono ?_); rintro e w3 ⟨A3, c3, rfl, k3, B3, b3⟩; have cv3 := conv_told c1 ((B1.next b2).next b3); have dv3 := conv_told c3 B3)) | (go_at_call 10; ((with_reducible refine (CA.out _ (HT.out.next (below_next (below_next (below_next (drew_one w) b1) b2) b3))).mono ?_); rintro e w4 ⟨rfl, b4⟩)))
    all_goals
      go_wp2_with fail
      go_ret
      exact ⟨rfl, below_next (below_next (below_next (below_next (drew_one w) b1) b2) b3) b4⟩
  · clear HA HR
    go_enter Tryd.func4, Tryd.ntmps4
    go_wp2_with (go_at_call 10; ((with_reducible refine (CA.out _ HT.out).mono ?_); rintro e w5 ⟨rfl, b5⟩))
    go_ret
    exact ⟨rfl, b5⟩
end Go.Proofs.YtakafhjnkcilkaaDoor
