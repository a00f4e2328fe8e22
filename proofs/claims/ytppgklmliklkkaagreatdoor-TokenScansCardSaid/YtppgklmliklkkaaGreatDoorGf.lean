/-
  The walk of the reference's Parse: the look through a decimal.
-/
import Derived.Test.YtppgklmliklkkaaGreatDoorGb
import Derived.Test.YtppgklmliklkkaaGreatDoorGd
import Derived.OwnWalk
namespace Go.Proofs.YtppgklmliklkkaaGreatDoor
open Go.RowKit

namespace Fx
/-- the ways of one byte -/
inductive WayC (c : UInt8) (T T' : Sc) : Prop
  | e1 (h1 : ((c.toNat : Int) == 101) = true) (hT : T' = { T with ie := true })
  | e2 (h1 : ((c.toNat : Int) == 101) = false) (h2 : ((c.toNat : Int) == 69) = true) (hT : T' = { T with ie := true })
  | neg (h1 : ((c.toNat : Int) == 101) = false) (h2 : ((c.toNat : Int) == 69) = false) (hi : T.ie = true) (h3 : ((c.toNat : Int) == 45) = true) (hT : T' = { T with en := true })
  | point (h1 : ((c.toNat : Int) == 101) = false) (h2 : ((c.toNat : Int) == 69) = false) (h3 : ((c.toNat : Int) == 45) = false) (h4 : ((c.toNat : Int) == 46) = true) (hT : T' = { T with bh := true })
  | dexp (h1 : ((c.toNat : Int) == 101) = false) (h2 : ((c.toNat : Int) == 69) = false) (h3 : ((c.toNat : Int) == 45) = false) (h4 : ((c.toNat : Int) == 46) = false) (hi : T.ie = true) (d1 : 48 ≤ (c.toNat : Int)) (d2 : (c.toNat : Int) ≤ 57)
      (hT : T' = { T with ed := T.ed + 1, ex := if T.ex < 999999 then T.ex * 10 + dv c else T.ex })
  | dman (h1 : ((c.toNat : Int) == 101) = false) (h2 : ((c.toNat : Int) == 69) = false) (h3 : ((c.toNat : Int) == 45) = false) (h4 : ((c.toNat : Int) == 46) = false) (hi : T.ie = false) (d1 : 48 ≤ (c.toNat : Int)) (d2 : (c.toNat : Int) ≤ 57)
      (hT : T' = { T with d := T.d ++ [dv c], pt := if T.bh then T.pt else T.pt + 1 })
  | other (h1 : ((c.toNat : Int) == 101) = false) (h2 : ((c.toNat : Int) == 69) = false) (h3 : T.ie = false ∨ ((c.toNat : Int) == 45) = false) (h4 : ((c.toNat : Int) == 46) = false) (dn : (c.toNat : Int) < 48 ∨ 57 < (c.toNat : Int)) (hT : T' = T)
theorem byte_is {c : UInt8} {n : Nat} (hn : n < 256) (h : c = UInt8.ofNat n) : ((c.toNat : Int) == (n : Int)) = true := (byte_eq hn).2 h
theorem byte_not {c : UInt8} {n : Nat} (hn : n < 256) (h : ¬ c = UInt8.ofNat n) : ((c.toNat : Int) == (n : Int)) = false := by
  rw [Bool.eq_false_iff]; intro hh; exact h ((byte_eq hn).1 hh)
theorem wayC (c : UInt8) (T : Sc) : WayC c T (step T c) := by
  by_cases c1 : c = 101
  · exact .e1 (byte_is (n := 101) (by decide) c1) (by unfold step; rw [if_pos (Or.inl c1)])
  have h1 : ((c.toNat : Int) == 101) = false := byte_not (n := 101) (by decide) c1
  by_cases c2 : c = 69
  · exact .e2 h1 (byte_is (n := 69) (by decide) c2) (by unfold step; rw [if_pos (Or.inr c2)])
  have h2 : ((c.toNat : Int) == 69) = false := byte_not (n := 69) (by decide) c2
  have k1 : ¬ (c = 101 ∨ c = 69) := fun h => h.elim c1 c2
  by_cases c3 : c = 45
  · have hb := byte_is (n := 45) (by decide) c3
    cases hi : T.ie
    · refine .other h1 h2 (Or.inl hi) (by rw [c3]; rfl) (by rw [c3]; decide) ?_
      unfold step
      rw [if_neg k1, if_neg (by simp [hi]), if_neg (by rw [c3]; decide), if_neg (by simp [hi]), if_neg (by rw [c3]; decide)]
    · exact .neg h1 h2 hi hb (by unfold step; rw [if_neg k1, if_pos ⟨hi, c3⟩])
  have h3 : ((c.toNat : Int) == 45) = false := byte_not (n := 45) (by decide) c3
  by_cases c4 : c = 46
  · exact .point h1 h2 h3 (byte_is (n := 46) (by decide) c4) (by unfold step; rw [if_neg k1, if_neg (fun h => c3 h.2), if_pos c4])
  have h4 : ((c.toNat : Int) == 46) = false := byte_not (n := 46) (by decide) c4
  cases hd : isD c
  · have dn : (c.toNat : Int) < 48 ∨ 57 < (c.toNat : Int) := by have := of_decide_eq_false hd; omega
    refine .other h1 h2 (Or.inr h3) h4 dn ?_
    unfold step
    rw [if_neg k1, if_neg (fun h => c3 h.2), if_neg c4, if_neg (by simp [hd]), if_neg (by simp [hd])]
  · have dd := of_decide_eq_true hd
    cases hi : T.ie
    · exact .dman h1 h2 h3 h4 hi dd.1 dd.2 (step_digit hd hi)
    · exact .dexp h1 h2 h3 h4 hi dd.1 dd.2 (step_exp hd hi)

theorem scan_snoc (l : List UInt8) (c : UInt8) : scan (l ++ [c]) = step (scan l) c := by
  unfold scan; rw [List.foldl_append]; rfl
theorem take_next (s : ByteArray) (k : Nat) (h : k < s.size) : s.data.toList.take (k + 1) = s.data.toList.take k ++ [s[k]] := by
  rw [List.take_succ_eq_append_getElem (by simpa using h)]; rfl
end Fx

def ints (l : List Nat) : List Value := l.map fun (n : Nat) => .int .i64 (n : Int)

/-- what stands in the slots at the head of a round -/
def Looked (w : World) (k : Nat) (T : Fx.Sc) (v4 v5 v6 v7 v8 v9 v10 v11 : Value) (wr : World) : Prop :=
  v5 = .int .i64 (T.pt : Nat) ∧ v6 = .bool T.bh ∧ v7 = .int .i64 (T.ex : Nat) ∧ v8 = .int .i64 (T.ed : Nat) ∧ v9 = .bool T.en ∧ v10 = .bool T.ie ∧ v11 = .int .i64 (k : Nat) ∧
  wr.ownsRow w.heap.size 3 1 v4 T.d.length (ints T.d) ∧ Below w.heap.size w wr ∧ T.d.length ≤ k ∧ T.pt ≤ k ∧ T.ed ≤ k ∧ T.ex ≤ 9999999


theorem rlength_is (s : ByteArray) (hs : s.size ≤ 100000) : Hid (∀ w : World, Calls Tryz.prog 39 #[.string s] w fun e w' => e = .returned (.int .i64 (Fx.len s.data.toList : Nat)) ∧ w = w') :=
  Lib.hid fun w => rlength_any s w (by unfold maxLen; omega)

set_option maxRecDepth 100000 in
set_option maxHeartbeats 1000000 in
theorem rparse_no (s : ByteArray) (w : World) (hs : s.size ≤ 100000) (hn : Fx.isDec s.data.toList = false) :
    Calls Tryz.prog 40 #[.string s] w fun e w' => e = .returned (.tuple #[.int .i64 0, .bool false]) ∧ Below w.heap.size w w' := by
  have hl : s.data.toList.length = s.size := by simp
  have C := rlength_is s hs
  have h1 := of_decide_eq_false hn
  have h2 := Fx.len_hi s.data.toList
  rw [hl] at h1 h2
  generalize Fx.len s.data.toList = m at *
  clear hn hl
  by_cases h0 : s.size = 0
  · have e0 : ((s.size : Int) == 0) = true := by rw [beq_iff_eq]; omega
    clear h0 h1
    go_enter Tryz.func40, Tryz.ntmps40
    go_wp2_with fail
    go_ret2
    exact ⟨rfl, Below.refl _ _⟩
  · have e0 : ((s.size : Int) == 0) = false := by rw [beq_eq_false_iff_ne]; omega
    have e1 : ((m : Int) != (s.size : Int)) = true := by rw [bne_iff_ne]; omega
    have e2 : ((m : Int) == (s.size : Int)) = false := by rw [beq_eq_false_iff_ne]; omega
    clear h0 h1
    go_enter Tryz.func40, Tryz.ntmps40
    go_wp2_with (go_at_call 39; ((with_reducible refine (C.out _).mono ?_); rintro e w' ⟨rfl, rfl⟩))
    go_ret2
    exact ⟨rfl, Below.refl _ _⟩

set_option maxRecDepth 100000 in
set_option maxHeartbeats 4000000 in
theorem rparse_yes (s : ByteArray) (w : World) (hs : s.size ≤ 100000) (hn : Fx.isDec s.data.toList = true) :
    Calls Tryz.prog 40 #[.string s] w fun e w' => e = .returned (.tuple #[.int .i64 (Fx.num s.data.toList), .bool true]) ∧ Below w.heap.size w w' := by
  have hl : s.data.toList.length = s.size := by simp
  have C := rlength_is s hs
  have h1 := of_decide_eq_true hn
  rw [hl] at h1
  rw [h1.2] at C
  have hp : 0 < s.size := by omega
  have e0 : ((s.size : Int) == 0) = false := by rw [beq_eq_false_iff_ne]; omega
  have e1 : ((s.size : Int) != (s.size : Int)) = false := by simp
  obtain ⟨i0, hi, hz0, hz1, hz2⟩ := info_parts Tryz.info3
  have HN := Lib.hid hn
  clear hn hl h1
  go_enter Tryz.func40, Tryz.ntmps40
  go_wp2_with (go_at_call 39; ((with_reducible refine (C.out _).mono ?_); rintro e w' ⟨rfl, rfl⟩))
  clear C e1
  go_loopw [4, 5, 6, 7, 8, 9, 10, 11] (fun v4 v5 v6 v7 v8 v9 v10 v11 wr => ∃ k : Nat, k ≤ s.size ∧ ∃ T, Hid (Fx.scan (s.data.toList.take k) = T) ∧ Looked w k T v4 v5 v6 v7 v8 v9 v10 v11 wr) (fun _ _ _ _ _ _ _ v11 _ => s.size - (intOf v11).toNat)
  case atStart =>
    refine ⟨0, Nat.zero_le _, Fx.sc0, Lib.hid rfl, rfl, rfl, rfl, rfl, rfl, rfl, rfl, World.ownsRow_nil _ _ _ _, Below.refl _ _, ?_, ?_, ?_, ?_⟩ <;> decide
  case round =>
    obtain ⟨k, hk, T, hT, rfl, rfl, rfl, rfl, rfl, rfl, rfl, hown, hbel, q1, q2, q3, q4⟩ := hrel
    by_cases hlt : k < s.size
    · have hw := Fx.wayC s[k] T
      have hT' : Hid (Fx.scan (s.data.toList.take (k + 1)) = Fx.step T s[k]) := Lib.hid (by rw [Fx.take_next s k hlt, Fx.scan_snoc, hT.out])
      generalize Fx.step T s[k] = T' at *
      obtain ⟨Td, Tp, Tb, Tx, Tn, Tg, Ti⟩ := T
      have HB := Lib.hid hbel
      clear hT hbel
      dsimp only at *
      rcases hw with ⟨c1, rfl⟩ | ⟨c1, c2, rfl⟩ | ⟨c1, c2, ci, c3, rfl⟩ | ⟨c1, c2, c3, c4, rfl⟩ | ⟨c1, c2, c3, c4, ci, d1, d2, hv⟩ | ⟨c1, c2, c3, c4, ci, d1, d2, hv⟩ | ⟨c1, c2, c3, c4, dn, rfl⟩
      · go_wp2_with fail
        go_roundw
        case rel => exact ⟨k + 1, by omega, _, hT', rfl, rfl, rfl, rfl, rfl, rfl, by go_num, hown, HB.out, by dsimp only; omega, by dsimp only; omega, by dsimp only; omega, q4⟩
        case measure => simp [intOf]; omega
      · go_wp2_with fail
        go_roundw
        case rel => exact ⟨k + 1, by omega, _, hT', rfl, rfl, rfl, rfl, rfl, rfl, by go_num, hown, HB.out, by dsimp only; omega, by dsimp only; omega, by dsimp only; omega, q4⟩
        case measure => simp [intOf]; omega
      · subst ci
        go_wp2_with fail
        go_roundw
        case rel => exact ⟨k + 1, by omega, _, hT', rfl, rfl, rfl, rfl, rfl, rfl, by go_num, hown, HB.out, by dsimp only; omega, by dsimp only; omega, by dsimp only; omega, q4⟩
        case measure => simp [intOf]; omega
      · cases Ti
        all_goals
          go_wp2_with fail
          go_roundw
          case rel => exact ⟨k + 1, by omega, _, hT', rfl, rfl, rfl, rfl, rfl, rfl, by go_num, hown, HB.out, by dsimp only; omega, by dsimp only; omega, by dsimp only; omega, q4⟩
          case measure => simp [intOf]; omega
      · subst ci
        have hdv := Fx.dv_le (Fx.isD_of d1 d2)
        have hsub := Lib.hid (sub_byte d1)
        have HV := Lib.hid hv
        clear hv
        by_cases hx : (Tx : Int) < 999999
        · have hv := HV.out
          dsimp only at hv
          rw [if_pos (by omega)] at hv
          clear HV
          subst hv
          go_wp2_with fail
          go_roundw
          case rel => exact ⟨k + 1, by omega, _, hT', rfl, rfl, congrArg (Value.int .i64) (by have := hsub.out; dsimp only; omega), by go_num, rfl, rfl, by go_num, hown, HB.out, by dsimp only; omega, by dsimp only; omega, by dsimp only; omega, by dsimp only; omega⟩
          case measure => simp [intOf]; omega
        · have hv := HV.out
          dsimp only at hv
          rw [if_neg (by omega)] at hv
          clear HV
          subst hv
          go_wp2_with fail
          go_roundw
          case rel => exact ⟨k + 1, by omega, _, hT', rfl, rfl, rfl, by go_num, rfl, rfl, by go_num, hown, HB.out, by dsimp only; omega, by dsimp only; omega, by dsimp only; omega, by dsimp only; omega⟩
          case measure => simp [intOf]; omega
      · subst ci
        have hdv := Fx.dv_le (Fx.isD_of d1 d2)
        have hsub := Lib.hid (sub_byte d1)
        have hbs := HB.out.size
        cases Tb
        all_goals
          dsimp only at hv
          first | rw [if_pos rfl] at hv | rw [if_neg (by decide)] at hv
          subst hv
          go_wp2_with (first | (at_builtin; refine wpList_append_own _ rfl _ _ 43 rfl w.heap.size 3 i0 (.int .i64 0) 1 8 Tryz.underlying43 hi hz0 hz1 hz2 rfl (by decide) _ _ _ rfl (hown.alloc _) ⟨wr.heap.size, 0, none⟩ 1 1 [.int .i64 ((s[k].toNat : Int) - 48)] rfl rfl ?c1 ?c2 ?c3 ?c4 ?c5 ?_))
          case c1 =>
            intro j u hj
            match j, hj with
            | 0, hj => simp only [List.getElem?_cons_zero, Option.some.injEq] at hj; subst hj; simp [Addr.add, go_sem]
          case c2 => simp [Value.oneCell']
          case c3 => unfold maxLen; omega
          case c4 => omega
          case c5 => simp; omega
          intro v' w1 hown1 hgrow _
          have hb1 : Hid (Below w.heap.size w w1) := Lib.hid ((HB.out.alloc hbs _).grown hgrow (by simp; omega) (fun k hk => (hown.lt k hk).1))
          have ho1 : w1.ownsRow w.heap.size 3 1 v' (Td ++ [Fx.dv s[k]]).length (ints (Td ++ [Fx.dv s[k]])) := by
            rw [hsub.out] at hown1
            unfold ints at *
            rw [List.map_append, List.length_append]
            exact hown1
          clear hown1 hgrow hown
          go_wp2_with fail
          go_roundw
          case rel => exact ⟨k + 1, by omega, _, hT', by first | rfl | go_num, rfl, rfl, rfl, rfl, rfl, by go_num, ho1, hb1.out, by simp; omega, by dsimp only; omega, by dsimp only; omega, q4⟩
          case measure => simp [intOf]; omega
      · rcases c3 with ci | c3
        · subst ci
          rcases dn with dn | dn
          all_goals
            go_wp2_with fail
            go_roundw
            case rel => exact ⟨k + 1, by omega, _, hT', rfl, rfl, rfl, rfl, rfl, rfl, by go_num, hown, HB.out, by dsimp only; omega, by dsimp only; omega, by dsimp only; omega, q4⟩
            case measure => simp [intOf]; omega
        · have d1 : decide (48 ≤ (s[k].toNat : Int)) = true ∨ decide (48 ≤ (s[k].toNat : Int)) = false := by cases decide (48 ≤ (s[k].toNat : Int)) <;> simp
          cases Ti
          all_goals
            rcases dn with dn | dn
            all_goals
              go_wp2_with fail
              go_roundw
              case rel => exact ⟨k + 1, by omega, _, hT', rfl, rfl, rfl, rfl, rfl, rfl, by go_num, hown, HB.out, by dsimp only; omega, by dsimp only; omega, by dsimp only; omega, q4⟩
              case measure => simp [intOf]; omega
    · have hT2 : T = Fx.sc2 s.data.toList := by
        rw [← hT.out, List.take_of_length_le (by simp; omega)]
        exact Fx.scan_dec HN.out
      subst hT2
      clear hT
      have hx := Fx.exp_ref s.data.toList
      have hlen := Fx.digs_pos HN.out
      have hg : Hid (∀ i, (Fx.digs s.data.toList).getD i 0 = Fx.dgt s.data.toList i) := Lib.hid (Fx.digs_get _)
      have hle : Hid (∀ i, Fx.dgt s.data.toList i ≤ 9) := Lib.hid (Fx.dgt_le _)
      have hnum : Hid (Fx.num s.data.toList = if Fx.at' s.data.toList 0 = 45 then - min ((Fx.V (Fx.dgt s.data.toList) ((Fx.place0 s.data.toList : Int) + Fx.expo s.data.toList + 3).toNat : Nat) : Int) 1099511627776 else min ((Fx.V (Fx.dgt s.data.toList) ((Fx.place0 s.data.toList : Int) + Fx.expo s.data.toList + 3).toNat : Nat) : Int) 1099511627776) := Lib.hid rfl
      have hex : Hid (Fx.expo s.data.toList = if decide (Fx.spE s.data.toList ≠ Fx.spD s.data.toList ∧ Fx.at' s.data.toList (Fx.spD s.data.toList + 1) = 45) = true then - (if Fx.spE s.data.toList = Fx.spD s.data.toList then 0 else (Fx.expMag s.data.toList : Int)) else (if Fx.spE s.data.toList = Fx.spD s.data.toList then 0 else (Fx.expMag s.data.toList : Int))) := Lib.hid (Fx.expo_two _)
      unfold Fx.sc2 at *
      dsimp only at *
      rw [← hx] at hex
      have hbd := Fx.expo_bd s.data.toList
      generalize decide (Fx.spE s.data.toList ≠ Fx.spD s.data.toList ∧ Fx.at' s.data.toList (Fx.spD s.data.toList + 1) = 45) = G at *
      generalize decide (Fx.spE s.data.toList ≠ Fx.spD s.data.toList) = Gi at *
      generalize decide (Fx.spW s.data.toList < Fx.spD s.data.toList) = Gb at *
      generalize Fx.expo s.data.toList = x at *
      obtain ⟨r, hr⟩ : ∃ r, r = Fx.num s.data.toList := ⟨_, rfl⟩
      have HRR := Lib.hid hr.symm
      rw [← hr] at hnum
      clear hr
      generalize Fx.exRef s.data.toList = ex at *
      generalize Fx.edRef s.data.toList = ed at *
      generalize Fx.place0 s.data.toList = pl at *
      generalize Fx.digs s.data.toList = D at *
      generalize Fx.dgt s.data.toList = f at *
      clear hx HN
      have HAT := Lib.hid (Fx.get_at s 0 hp)
      have HB := Lib.hid hbel
      clear hbel
      obtain ⟨g, cap, rfl, hgb⟩ : ∃ g cap, u4 = .slice (some ⟨g, 0, none⟩) D.length cap ∧ w.heap.size ≤ g := by
        rcases hown.2 with ⟨_, h0⟩ | ⟨g, cap, cur, hv, hb, _⟩
        · omega
        · exact ⟨g, cap, hv, hb⟩
      go_upto_region 28 with fail
      go_cut [87] (fun s87 wx => s87 = .bool (decide (999999 < (ex : Int) ∨ 6 < (ed : Int))) ∧ wr = wx)
      case first =>
        by_cases t1 : 999999 < (ex : Int)
        · go_wp2_with fail
          go_meet
          exact ⟨by congr 1; symm; exact decide_eq_true (Or.inl t1), rfl⟩
        · by_cases t2 : 6 < (ed : Int)
          · go_wp2_with fail
            go_meet
            exact ⟨by congr 1; symm; exact decide_eq_true (Or.inr t2), rfl⟩
          · go_wp2_with fail
            go_meet
            exact ⟨by congr 1; symm; exact decide_eq_false (by omega), rfl⟩
      case rest =>
        obtain ⟨rfl, rfl⟩ := hcut
        obtain ⟨m, hm, m0, m1⟩ : ∃ m : Int, m = (if 999999 < ex ∨ 6 < ed then (999999 : Int) else ex) ∧ 0 ≤ m ∧ m ≤ 999999 := ⟨_, rfl, by split <;> omega, by split <;> omega⟩
        rw [← hm] at hex
        have HM := Lib.hid hm
        clear hm
        go_upto_if 87 with fail
        go_cut [7] (fun s7 wx => s7 = .int .i64 m ∧ wr = wx)
        case first =>
          by_cases t1 : 999999 < (ex : Int) ∨ 6 < (ed : Int)
          · rw [decide_eq_true t1]
            have e1 : m = 999999 := by rw [HM.out, if_pos (by omega)]
            clear HM
            go_wp2_with fail
            go_meet
            exact ⟨by rw [e1], rfl⟩
          · rw [decide_eq_false t1]
            have e1 : Hid (m = ex) := Lib.hid (by rw [HM.out, if_neg (by omega)])
            clear HM
            go_wp2_with fail
            go_meet
            exact ⟨by rw [e1.out], rfl⟩
        case rest =>
          obtain ⟨rfl, rfl⟩ := hcut
          clear HM
          go_upto_if 88 with fail
          go_cut [7] (fun s7 wx => s7 = .int .i64 x ∧ wr = wx)
          case first =>
            cases G
            · have e1 : Hid (x = m) := Lib.hid (by rw [hex.out, if_neg (by decide)])
              clear hex
              go_wp2_with fail
              go_meet
              exact ⟨by rw [e1.out], rfl⟩
            · have e1 : Hid (x = -m) := Lib.hid (by rw [hex.out, if_pos rfl])
              clear hex
              go_wp2_with fail
              go_meet
              exact ⟨by rw [e1.out], rfl⟩
          case rest =>
            obtain ⟨rfl, rfl⟩ := hcut
            clear hex m0 m1
            obtain ⟨hx1, hx2⟩ := hbd
            have hcell : Hid (∀ i, i < D.length → wr.cell? ⟨g, i, none⟩ = some (.int .i64 (f i : Nat))) := Lib.hid fun i hi => by
              rw [hown.cellAt i (by omega)]
              unfold ints
              rw [List.getElem?_map, ← hg.out i, List.getD_eq_getElem?_getD, List.getElem?_eq_getElem hi]
              rfl
            have hz : Hid (∀ i, D.length ≤ i → f i = 0) := Lib.hid fun i hi => by
              rw [← hg.out i, List.getD_eq_getElem?_getD, List.getElem?_eq_none hi]; rfl
            clear hown hg
            generalize hP : (pl : Int) + x + 3 = P at hnum
            have HP := Lib.hid hP
            clear hP
            have hP1 : (pl : Int) + x + 3 ≤ 2000000 := by omega
            have hP2 : -2000000 ≤ (pl : Int) + x + 3 := by omega
            go_wp2_with fail
            go_loop [13, 14] (fun n i => ∃ t : Nat, (t : Int) ≤ max ((pl : Int) + x + 3) 0 ∧ i = .int .i64 t ∧ n = .int .i64 (Fx.V f t : Nat) ∧ Fx.V f t ≤ 1099511627775) (fun _ i => 20000000 - (intOf i).toNat)
            case atStart => exact ⟨0, by omega, rfl, rfl, Nat.zero_le _⟩
            case round =>
              obtain ⟨t, ht, rfl, rfl, hv⟩ := hrel
              have hf := hle.out t
              have hV := Lib.hid (Fx.V_succ f t)
              have hfin : Hid (∀ n : Int, n = min ((Fx.V f P.toNat : Nat) : Int) 1099511627776 → (s[0] = 45 → r = -n) ∧ (¬ s[0] = 45 → r = n)) := Lib.hid fun n h => by
                rw [hnum.out, HAT.out, h]
                exact ⟨fun h => if_pos h, fun h => if_neg h⟩
              have hPP := HP
              clear hnum HAT HP
              by_cases h1 : (t : Int) < (pl : Int) + x + 3
              · by_cases h2 : t < D.length
                · have hc := hcell.out t h2
                  have fz := hz
                  clear hcell hz
                  have CS := Lib.hid fun w => rstop_min ((Fx.V f t : Int) * 10 + (f t : Int)) w (by omega)
                  by_cases h3 : Fx.V f t * 10 + f t ≤ 1099511627775
                  · have hm : min ((Fx.V f t : Int) * 10 + (f t : Int)) 1099511627776 = (Fx.V f t : Int) * 10 + (f t : Int) := by omega
                    have he : (((Fx.V f t : Int) * 10 + (f t : Int)) == 1099511627776) = false := by rw [beq_eq_false_iff_ne]; omega
                    clear hPP hfin fz
                    go_wp2_with (go_at_call 61; ((with_reducible refine (CS.out _).mono ?_); rintro e w' ⟨rfl, rfl⟩))
                    go_round
                    case rel => exact ⟨t + 1, by omega, by go_num, by rw [hV.out]; go_num, by rw [hV.out]; omega⟩
                    case measure => simp [intOf]; omega
                  · have hm : min ((Fx.V f t : Int) * 10 + (f t : Int)) 1099511627776 = 1099511627776 := by omega
                    have hZ := hfin.out 1099511627776 (by
                      have := Fx.V_le f (a := t + 1) (b := P.toNat) (by have := hPP.out; omega)
                      have := hV.out
                      omega)
                    clear hPP hfin fz hV
                    by_cases h45 : s[0] = 45
                    · have hb45 : ((s[0].toNat : Int) == 45) = true := by rw [h45]; rfl
                      have HR := Lib.hid (hZ.1 h45)
                      clear hZ h45
                      go_wp2_with (go_at_call 61; ((with_reducible refine (CS.out _).mono ?_); rintro e w' ⟨rfl, rfl⟩))
                      go_ret2
                      exact ⟨by rw [HRR.out, HR.out]; rfl, HB.out⟩
                    · have hb45 : ((s[0].toNat : Int) == 45) = false := Fx.byte_not (n := 45) (by decide) h45
                      have HR := Lib.hid (hZ.2 h45)
                      clear hZ h45
                      go_wp2_with (go_at_call 61; ((with_reducible refine (CS.out _).mono ?_); rintro e w' ⟨rfl, rfl⟩))
                      go_ret2
                      exact ⟨by rw [HRR.out, HR.out]; rfl, HB.out⟩
                · have f0 := hz.out t (by omega)
                  rw [f0] at hV
                  have hzz : Fx.V f t = 0 → Hid (Fx.V f P.toNat = 0) := fun h => Lib.hid (Fx.V_still f (a := t) h (fun i hi => hz.out i (by omega)) (by have := hPP.out; omega))
                  clear hcell hz f0 hf
                  by_cases h4 : Fx.V f t = 0
                  · have hZ := hfin.out (Fx.V f t) (by rw [(hzz h4).out, h4]; rfl)
                    have e4 : ((Fx.V f t : Int) == 0) = true := by rw [beq_iff_eq]; omega
                    clear hPP hfin hzz hV h4
                    by_cases h45 : s[0] = 45
                    · have hb45 : ((s[0].toNat : Int) == 45) = true := by rw [h45]; rfl
                      have HR := Lib.hid (hZ.1 h45)
                      clear hZ h45
                      go_wp2_with fail
                      go_ret2
                      exact ⟨by rw [HRR.out, HR.out]; rfl, HB.out⟩
                    · have hb45 : ((s[0].toNat : Int) == 45) = false := Fx.byte_not (n := 45) (by decide) h45
                      have HR := Lib.hid (hZ.2 h45)
                      clear hZ h45
                      go_wp2_with fail
                      go_ret2
                      exact ⟨by rw [HRR.out, HR.out]; rfl, HB.out⟩
                  · have e4 : ((Fx.V f t : Int) == 0) = false := by rw [beq_eq_false_iff_ne]; omega
                    have CS := Lib.hid fun w => rstop_min ((Fx.V f t : Int) * 10) w (by omega)
                    by_cases h3 : Fx.V f t * 10 ≤ 1099511627775
                    · have hm : min ((Fx.V f t : Int) * 10) 1099511627776 = (Fx.V f t : Int) * 10 := by omega
                      have he : (((Fx.V f t : Int) * 10) == 1099511627776) = false := by rw [beq_eq_false_iff_ne]; omega
                      clear hPP hfin hzz h4
                      go_wp2_with (go_at_call 61; ((with_reducible refine (CS.out _).mono ?_); rintro e w' ⟨rfl, rfl⟩))
                      go_round
                      case rel => exact ⟨t + 1, by omega, by go_num, by rw [hV.out]; go_num, by rw [hV.out]; omega⟩
                      case measure => simp [intOf]; omega
                    · have hm : min ((Fx.V f t : Int) * 10) 1099511627776 = 1099511627776 := by omega
                      have hZ := hfin.out 1099511627776 (by
                        have := Fx.V_le f (a := t + 1) (b := P.toNat) (by have := hPP.out; omega)
                        have := hV.out
                        omega)
                      clear hPP hfin hzz hV h4
                      by_cases h45 : s[0] = 45
                      · have hb45 : ((s[0].toNat : Int) == 45) = true := by rw [h45]; rfl
                        have HR := Lib.hid (hZ.1 h45)
                        clear hZ h45
                        go_wp2_with (go_at_call 61; ((with_reducible refine (CS.out _).mono ?_); rintro e w' ⟨rfl, rfl⟩))
                        go_ret2
                        exact ⟨by rw [HRR.out, HR.out]; rfl, HB.out⟩
                      · have hb45 : ((s[0].toNat : Int) == 45) = false := Fx.byte_not (n := 45) (by decide) h45
                        have HR := Lib.hid (hZ.2 h45)
                        clear hZ h45
                        go_wp2_with (go_at_call 61; ((with_reducible refine (CS.out _).mono ?_); rintro e w' ⟨rfl, rfl⟩))
                        go_ret2
                        exact ⟨by rw [HRR.out, HR.out]; rfl, HB.out⟩
              · have hZ := hfin.out (Fx.V f t) (by
                  rw [show P.toNat = t by have := hPP.out; omega]
                  omega)
                clear hPP hfin hV hcell hz hf
                by_cases h45 : s[0] = 45
                · have hb45 : ((s[0].toNat : Int) == 45) = true := by rw [h45]; rfl
                  have HR := Lib.hid (hZ.1 h45)
                  clear hZ h45
                  go_wp2_with fail
                  go_ret2
                  exact ⟨by rw [HRR.out, HR.out]; rfl, HB.out⟩
                · have hb45 : ((s[0].toNat : Int) == 45) = false := Fx.byte_not (n := 45) (by decide) h45
                  have HR := Lib.hid (hZ.2 h45)
                  clear hZ h45
                  go_wp2_with fail
                  go_ret2
                  exact ⟨by rw [HRR.out, HR.out]; rfl, HB.out⟩

end Go.Proofs.YtppgklmliklkkaaGreatDoor
