/-
  The walk of the program's Parse.
-/
import Derived.Test.YtahdecppngemeaaDoorFxG
import Derived.Test.YtahdecppngemeaaDoorFxH
import Derived.Deep.RegionHeld3
namespace Go.Proofs.YtahdecppngemeaaDoor
open Go.RowKit

def DigitsOf (s : ByteArray) (w : World) (e : Ending) (w' : World) : Prop :=
  ∃ bp bs : Nat, e = .returned (.func (.func 35) #[] #[.pointer (some ⟨bp, 0, none⟩), .pointer (some ⟨bs, 0, none⟩)]) ∧ Has w' s bp bs ∧ Below w.heap.size w w'

set_option maxRecDepth 100000 in
set_option maxHeartbeats 400000 in
theorem digitsOf_any (s : ByteArray) (en : Int) (w : World) :
    Calls Tryd.prog 27 #[.string s, .agg #[.int .i64 (Fx.spS s.data.toList : Nat), .int .i64 (Fx.spW s.data.toList : Nat), .int .i64 (Fx.spD s.data.toList : Nat), .int .i64 en]] w (DigitsOf s w) := by
  have hmf : ∀ (fn : Fn) (first cap : Array Value) (w : World), (Instr.makeFunc fn first cap).run Tryd.prog w = .ok (.func fn first cap) w := fun _ _ _ _ => rfl
  go_enter Tryd.func27, Tryd.ntmps27
  go_wp2_with fail
  go_ret
  refine ⟨w.heap.size + 1, w.heap.size, by simp, ⟨?_, ?_, ?_, ?_⟩, ?_⟩
  · simp [go_sem]
  · simp [go_sem]
  · simp [go_sem]
  · simp [go_sem]
  · exact (((Below.refl _ _).alloc (Nat.le_refl _) _).alloc (by simp) _)

theorem len_no {l : List UInt8} (h : Fx.spD l = Fx.spS l) : Fx.len l = 0 := by unfold Fx.len; rw [if_pos h]
theorem len_yes {l : List UInt8} (h : ¬ Fx.spD l = Fx.spS l) : Fx.len l = Fx.spE l := by unfold Fx.len; rw [if_neg h]

set_option maxRecDepth 100000 in
set_option maxHeartbeats 1000000 in
theorem parse_no (s : ByteArray) (w : World) (hs : s.size ≤ 1000) (hn : Fx.isDec s.data.toList = false) :
    Calls Tryd.prog 17 #[.string s] w fun e w' => e = .returned (.tuple #[.int .i64 0, .bool false]) ∧ Below w.heap.size w w' := by
  have hs' : s.size ≤ maxLen := by unfold maxLen; omega
  have hl : s.data.toList.length = s.size := by simp
  by_cases h : Fx.spD s.data.toList = Fx.spS s.data.toList
  · have C := Lib.hid fun w => split_no s w hs' h
    clear h hn hl hs'
    go_enter Tryd.func17, Tryd.ntmps17
    go_wp2_with (go_at_call 24; ((with_reducible refine (C.out _).mono ?_); rintro e w' ⟨rfl, hb⟩; unfold parts))
    go_ret2
    exact ⟨rfl, hb.alloc hb.size _⟩
  · have C := Lib.hid fun w => split_yes s w hs' h
    have hE : Fx.spE s.data.toList < s.size := by
      have h1 := of_decide_eq_false hn
      rw [len_yes h, hl] at h1
      have h2 := Fx.spE_hi s.data.toList
      have h3 := Fx.spE_lo s.data.toList
      have h4 := Fx.spD_lo s.data.toList
      have h5 := Fx.spW_lo s.data.toList
      have : Fx.spE s.data.toList ≠ 0 := by omega
      have : ¬ Fx.spE s.data.toList = s.size := fun e => h1 ⟨this, e⟩
      omega
    generalize Fx.spE s.data.toList = en at *
    generalize Fx.spD s.data.toList = d at *
    generalize Fx.spW s.data.toList = wh at *
    generalize Fx.spS s.data.toList = j at *
    clear h hn hl hs'
    go_enter Tryd.func17, Tryd.ntmps17
    go_wp2_with (go_at_call 24; ((with_reducible refine (C.out _).mono ?_); rintro e w' ⟨rfl, hb⟩; unfold parts))
    all_goals (go_ret2; exact ⟨rfl, hb.alloc hb.size _⟩)

set_option maxRecDepth 100000 in
set_option maxHeartbeats 4000000 in
theorem parse_yes (s : ByteArray) (w : World) (hs : s.size ≤ 1000) (hn : Fx.isDec s.data.toList = true) :
    Calls Tryd.prog 17 #[.string s] w fun e w' => e = .returned (.tuple #[.int .i64 (Fx.num s.data.toList), .bool true]) ∧ Below w.heap.size w w' := by
  have hs' : s.size ≤ maxLen := by unfold maxLen; omega
  have hl : s.data.toList.length = s.size := by simp
  have hn' := of_decide_eq_true hn
  have h : ¬ Fx.spD s.data.toList = Fx.spS s.data.toList := fun h => hn'.1 (len_no h)
  rw [len_yes h, hl] at hn'
  have C := Lib.hid fun w => split_yes s w hs' h
  rw [hn'.2] at C
  have CX : Hid (∀ w : World, Calls Tryd.prog 25 #[.string (s.extract (Fx.spD s.data.toList) s.size)] w fun e w' => e = .returned (.int .i64 (Fx.expo s.data.toList)) ∧ Below w.heap.size w w') :=
    Lib.hid fun w => exponent_any s _ w hs' (Lib.extract_to_end s _) hn'.2
  have CD := Lib.hid (fun w => digitsOf_any s (s.size : Int) w)
  have CL : Hid (∀ (bp bs : Nat) (p : Int) (w : World), p ≤ 10000000 → -10000000 ≤ p → Has w s bp bs → Calls Tryd.prog 26 #[.func (.func 35) #[] #[.pointer (some ⟨bp, 0, none⟩), .pointer (some ⟨bs, 0, none⟩)], .int .i64 ((Fx.spD s.data.toList : Int) - (Fx.spS s.data.toList : Int)), .int .i64 p] w fun e w' => e = .returned (.int .i64 (min (Fx.V (Fx.dgt s.data.toList) p.toNat : Nat) 1099511627776)) ∧ w = w') :=
    Lib.hid fun bp bs p w h1 h2 h3 => leading_any s bp bs p w hs h1 h2 h3
  have hx := Fx.expo_bd s.data.toList
  have hnum : Hid (Fx.num s.data.toList = if Fx.at' s.data.toList 0 = 45 then - min ((Fx.V (Fx.dgt s.data.toList) (((Fx.spW s.data.toList - Fx.spS s.data.toList : Nat) : Int) + Fx.expo s.data.toList + 3).toNat : Nat) : Int) 1099511627776 else min ((Fx.V (Fx.dgt s.data.toList) (((Fx.spW s.data.toList - Fx.spS s.data.toList : Nat) : Int) + Fx.expo s.data.toList + 3).toNat : Nat) : Int) 1099511627776) := Lib.hid rfl
  have b1 := Fx.spS_hi s.data.toList
  have b2 := Fx.spW_hi s.data.toList
  have b3 := Fx.spW_lo s.data.toList
  have b4 := Fx.spD_hi s.data.toList
  have b5 := Fx.spD_lo s.data.toList
  have b6 := Fx.spE_lo s.data.toList
  rw [hl] at b1 b2 b4
  rw [hn'.2] at b6
  have hp : 0 < s.size := by omega
  have hat := Lib.hid (Fx.get_at s 0 hp)
  have hne : ((s.size : Int) == 0) = false := by rw [beq_eq_false_iff_ne]; omega
  generalize Fx.expo s.data.toList = x at *
  generalize Fx.num s.data.toList = r at *
  generalize Fx.spD s.data.toList = d at *
  generalize Fx.spW s.data.toList = wh at *
  generalize Fx.spS s.data.toList = j at *
  generalize Fx.dgt s.data.toList = f at *
  clear h hn hn' hl hs'
  go_enter Tryd.func17, Tryd.ntmps17
  go_upto_region 4 with (go_at_call 24; ((with_reducible refine (C.out _).mono ?_); rintro e w1 ⟨rfl, hb⟩; unfold parts))
  have hsz := hb.size
  have k0 : (w1.alloc (.cells #[.int .i64 j, .int .i64 wh, .int .i64 d, .int .i64 s.size] 36)).cell? ⟨w1.heap.size, 0, none⟩ = some (.int .i64 j) := by simp [go_sem]
  have k1 : (w1.alloc (.cells #[.int .i64 j, .int .i64 wh, .int .i64 d, .int .i64 s.size] 36)).cell? ⟨w1.heap.size, 1, none⟩ = some (.int .i64 wh) := by simp [go_sem]
  have k2 : (w1.alloc (.cells #[.int .i64 j, .int .i64 wh, .int .i64 d, .int .i64 s.size] 36)).cell? ⟨w1.heap.size, 2, none⟩ = some (.int .i64 d) := by simp [go_sem]
  have k3 : (w1.alloc (.cells #[.int .i64 j, .int .i64 wh, .int .i64 d, .int .i64 s.size] 36)).cell? ⟨w1.heap.size, 3, none⟩ = some (.int .i64 s.size) := by simp [go_sem]
  have kb : Below w.heap.size w (w1.alloc (.cells #[.int .i64 j, .int .i64 wh, .int .i64 d, .int .i64 s.size] 36)) := hb.alloc hsz _
  have kz : w1.heap.size < (w1.alloc (.cells #[.int .i64 j, .int .i64 wh, .int .i64 d, .int .i64 s.size] 36)).heap.size := by simp
  generalize w1.alloc (.cells #[.int .i64 j, .int .i64 wh, .int .i64 d, .int .i64 s.size] 36) = W at *
  generalize w1.heap.size = b at *
  clear hb hsz C
  have hX := Lib.hid hx
  obtain ⟨hx1, hx2⟩ := hx
  have kd0 : (0 : Int) ≤ (d : Int) := by omega
  have kd1 : (d : Int) ≤ (s.size : Int) := by omega
  have KB := Lib.hid kb
  clear kb
  go_cut [5] (fun s5 wx => s5 = .int .i64 ((wh : Int) - (j : Int) + x + 3) ∧ wx.cell? ⟨b, 0, none⟩ = some (.int .i64 j) ∧ wx.cell? ⟨b, 1, none⟩ = some (.int .i64 wh) ∧ wx.cell? ⟨b, 2, none⟩ = some (.int .i64 d) ∧ wx.cell? ⟨b, 3, none⟩ = some (.int .i64 s.size) ∧ Hid (Below w.heap.size w wx) ∧ b < wx.heap.size)
  case first =>
    clear hat hne hnum CD CL
    go_region_held3 (fun w' => w'.cell? ⟨b, 0, none⟩ = some (.int .i64 j) ∧ w'.cell? ⟨b, 1, none⟩ = some (.int .i64 wh) ∧ w'.cell? ⟨b, 2, none⟩ = some (.int .i64 d) ∧ w'.cell? ⟨b, 3, none⟩ = some (.int .i64 s.size))
      (first
        | go_keep
        | (go_split_ands; exact ⟨(hb1.cell kz).trans (by assumption), (hb1.cell kz).trans (by assumption), (hb1.cell kz).trans (by assumption), (hb1.cell kz).trans (by assumption)⟩))
      (first
        | (go_at_call 25; refine (CX.out _).mono ?_; rintro e w2 ⟨rfl, hb1⟩))
    obtain ⟨q0, q1, q2, q3⟩ := ‹w2.cell? _ = _ ∧ _›
    have e1 : IntKind.i64.wrap ((wh : Int) - (j : Int)) = (wh : Int) - (j : Int) := IntWalk.i64_in _ (by omega)
    have e2 : IntKind.i64.wrap ((wh : Int) - (j : Int) + x) = (wh : Int) - (j : Int) + x := IntWalk.i64_in _ (by omega)
    have e3 : IntKind.i64.wrap ((wh : Int) - (j : Int) + x + 3) = (wh : Int) - (j : Int) + x + 3 := IntWalk.i64_in _ (by omega)
    go_wp2_with fail
    go_meet
    exact ⟨congrArg (Value.int .i64) (by rw [e1, e2, e3]), q0, q1, q2, q3, Lib.hid (KB.out.drew.trans (hb1.mono (by have := KB.out.size; simpa using this))), by have := hb1.size; simp at this; omega⟩
  case rest =>
    obtain ⟨rfl, c0, c1, c2, c3, hB, hbz⟩ := hcut
    clear k0 k1 k2 k3 kz KB CX
    have ew : IntKind.i64.wrap ((d : Int) - (j : Int)) = (d : Int) - (j : Int) := IntWalk.i64_in _ (by omega)
    have hp1 : (wh : Int) - (j : Int) + x + 3 ≤ 10000000 := by omega
    have hp2 : -10000000 ≤ (wh : Int) - (j : Int) + x + 3 := by omega
    clear hX
    go_upto_region 5 with fail
    go_cut [6] (fun s6 wx => s6 = .int .i64 (min (Fx.V f ((wh : Int) - (j : Int) + x + 3).toNat : Nat) 1099511627776) ∧ Hid (Below w.heap.size w wx))
    case first =>
      clear hat hne hnum
      go_region_held3 (fun w' => w'.cell? ⟨b, 0, none⟩ = some (.int .i64 j) ∧ w'.cell? ⟨b, 1, none⟩ = some (.int .i64 wh) ∧ w'.cell? ⟨b, 2, none⟩ = some (.int .i64 d) ∧ w'.cell? ⟨b, 3, none⟩ = some (.int .i64 s.size))
        (first
          | go_keep
          | (go_split_ands; exact ⟨(hb1.cell hbz).trans (by assumption), (hb1.cell hbz).trans (by assumption), (hb1.cell hbz).trans (by assumption), (hb1.cell hbz).trans (by assumption)⟩))
        (first
          | (go_at_call 27; refine (CD.out _).mono ?_; rintro e w2 ⟨bp, bs, rfl, hH, hb1⟩)
          | (go_at_call 26; refine (CL.out _ _ _ _ hp1 hp2 hH).mono ?_; rintro e w3 ⟨rfl, rfl⟩))
      have hb2 := hb1.size
      go_wp2_with fail
      go_meet
      exact ⟨rfl, Lib.hid (hB.out.drew.trans (hb1.mono (by have := hB.out.size; simpa using this)))⟩
    case rest =>
      obtain ⟨rfl, hB2⟩ := hcut
      have en : ((wh - j : Nat) : Int) = (wh : Int) - (j : Int) := by omega
      rw [en] at hnum
      clear en ew c0 c1 c2 c3 CD CL hB
      obtain ⟨v, hv, hv1, hv2⟩ : ∃ v : Int, v = min ((Fx.V f ((wh : Int) - (j : Int) + x + 3).toNat : Nat) : Int) 1099511627776 ∧ 0 ≤ v ∧ v ≤ 1099511627776 := ⟨_, rfl, by omega, by omega⟩
      rw [← hv] at hnum
      rw [← hv]
      clear hv
      by_cases h45 : s[0] = 45
      · have hb45 : ((s[0].toNat : Int) == 45) = true := by rw [h45]; rfl
        have HN : Hid (r = -v) := Lib.hid (by rw [hnum.out, hat.out, if_pos h45])
        clear h45 hnum hat
        go_wp2_with fail
        go_ret2
        exact ⟨by rw [HN.out]; rfl, hB2⟩
      · have hb45 : ((s[0].toNat : Int) == 45) = false := by
          rw [Bool.eq_false_iff]; intro hh; exact h45 ((byte_eq (n := 45) (by decide)).1 hh)
        have HN : Hid (r = v) := Lib.hid (by rw [hnum.out, hat.out, if_neg h45])
        clear h45 hnum hat
        go_wp2_with fail
        go_ret2
        exact ⟨by rw [HN.out]; rfl, hB2⟩

end Go.Proofs.YtahdecppngemeaaDoor
