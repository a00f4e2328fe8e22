/-
  The walk of the statement FixedShifts at the exponent 0.
-/
import Derived.Test.YtahdecppngemeaaDoorFxS
import Derived.Deep.RegionWith
import Derived.Deep.DeepCutAuto
namespace Go.Proofs.YtahdecppngemeaaDoor
open Go.RowKit

set_option maxRecDepth 100000 in
set_option maxHeartbeats 4000000 in
theorem shifts_0 (n : Int) (B : Nat) (w : World) (hB : B ≤ w.heap.size) (hT : Tab B w) (h1 : -1073741824 ≤ n) (h2 : n ≤ 1073741824) :
    Calls Tryd.prog 7 #[.int .i64 n, .int .i64 0] w (Yes w) := by
  have CA : Hid (∀ w' : World, Below w.heap.size w w' → Calls Tryd.prog 16 #[] w' (Yes w')) := Lib.hid fun w' hb => awake_any B w' (Nat.le_trans hB hb.size) (Lib.TabBelow.on hT (hb.mono hB))
  obtain ⟨t, ht⟩ : ∃ t : ByteArray, t = ⟨(Fx.text n).toArray⟩ := ⟨_, rfl⟩
  have hl : Hid (t.data.toList = Fx.text n) := Lib.hid (by rw [ht])
  have C1 : Hid (∀ w' : World, Below w.heap.size w w' → Calls Tryd.prog 21 #[.int .i64 n] w' fun e w'' => e = .returned (.string t) ∧ t.size ≤ 100 ∧ Below w'.heap.size w' w'') := Lib.hid fun w' hb => (print_any n B w' (Nat.le_trans hB hb.size) (Lib.TabBelow.on hT (hb.mono hB))).mono fun e w' h => gives_is ht h
  have CS := Lib.hid fun m w => rstop_any m w
  clear hT ht
  go_enter Tryd.func7, Tryd.ntmps7
  go_wp2_with fail
  refine wp_loop_rounds 1 ?_
  repeat (rw [rounds_succ]; go_wp2_with fail)
  refine wp_loop_rounds 1 ?_
  repeat (rw [rounds_succ]; go_wp2_with fail)
  have HB := Lib.hid (Below.refl w.heap.size w)
  go_cut [6] (fun s6 wx => t.size ≤ 100 ∧ s6 = .string (t ++ ⟨#[101]⟩ ++ ⟨#[48]⟩) ∧ Hid (Below w.heap.size w wx))
  case first =>
    go_region_with (go_at_call 21; refine (C1.out _ ?_).mono ?_; (first | exact Below.refl _ _ | exact (Below.refl _ _).drew | exact ((Below.refl _ _).alloc (Nat.le_refl _) _).drew | exact (Below.refl _ _).drew.alloc (Nat.le_refl _) _); rintro e w1 ⟨rfl, hts, hb1⟩; obtain ⟨hc1, hf1⟩ := bcell hb1)
    all_goals
      have hz1 := hb1.size
      go_wp2_with fail
      go_meet
      refine ⟨hts, rfl, Lib.hid ?_⟩
      repeat (first | exact Below.refl _ _ | refine Below.drew ?_ | refine Below.alloc ?_ (by first | exact Nat.le_refl _ | (simp at hz1 ⊢; omega)) _ | refine Below.trans ?_ (hb1.mono (by simp)))
  case rest =>
    obtain ⟨hts, rfl, hb⟩ := hcut
    have hn := shift_0.num n h1 h2
    have hd := shift_0.dec n
    have hD : (t ++ ⟨#[101]⟩ ++ ⟨#[48]⟩ : ByteArray).data.toList = Fx.text n ++ [101, 48] := by simp [hl.out]
    have hsz : (t ++ ⟨#[101]⟩ ++ ⟨#[48]⟩ : ByteArray).size ≤ 1000 := by simp only [ByteArray.size_append, size1]; omega
    have CP : Hid (∀ w : World, Calls Tryd.prog 17 #[.string (t ++ ⟨#[101]⟩ ++ ⟨#[48]⟩)] w fun e w' => e = .returned (.tuple #[.int .i64 (Fx.stop (n)), .bool true]) ∧ Below w.heap.size w w') := Lib.hid fun w => by
      have := parse_yes _ w hsz (by rw [hD]; exact hd)
      rw [hD, hn, want_0 n h1 h2] at this
      exact this
    have hbz := hb.out.size
    clear C1 HB hn hd hD hsz hl hts
    generalize (t ++ ⟨#[101]⟩ ++ ⟨#[48]⟩ : ByteArray) = T at *
    go_wp2_with (first | (go_at_call 17; ((with_reducible refine (CP.out _).mono ?_); rintro e w2 ⟨rfl, hb2⟩; have hc := hb.out.trans (hb2.mono hbz))) | (go_at_call 11; ((with_reducible refine (CS.out _ _).mono ?_); rintro e w' ⟨rfl, rfl⟩)) | (go_at_call 16; ((with_reducible refine (CA.out _ hc).mono ?_); rintro e w' ⟨rfl, hb3⟩)))
    go_ret
    exact ⟨rfl, hc.trans (hb3.mono hc.size)⟩

end Go.Proofs.YtahdecppngemeaaDoor
