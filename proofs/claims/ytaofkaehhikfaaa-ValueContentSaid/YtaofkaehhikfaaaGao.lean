/-
  The walk of the reference's Parse: the look through a decimal.
-/
import Derived.Test.YtaofkaehhikfaaaGan
import Derived.Test.YtaofkaehhikfaaaGal
import Derived.OwnWalk
import Derived.Lib.Strings
set_option maxHeartbeats 16000000
set_option maxRecDepth 100000
namespace Go.Proofs.Ytaofkaehhikfaaa
open Go.RowKit
namespace Fx
inductive WayC (c : UInt8) (T T' : Sc) : Prop
 | e1 (h1 : ((c.toNat : Int) == 101) = true) (hT : T' = { T with ie := true })
 | e2 (h1 : ((c.toNat : Int) == 101) = false) (h2 : ((c.toNat : Int) == 69) = true) (hT : T' = { T with ie := true })
 | neg (h1 : ((c.toNat : Int) == 101) = false) (h2 : ((c.toNat : Int) == 69) = false) (hi : T.ie = true) (h3 : ((c.toNat : Int) == 45) = true) (hT : T' = { T with en := true })
 | point (h1 : ((c.toNat : Int) == 101) = false) (h2 : ((c.toNat : Int) == 69) = false) (h3 : ((c.toNat : Int) == 45) = false) (h4 : ((c.toNat : Int) == 46) = true) (hT : T' = { T with bh := true })
 | dexp (h1 : ((c.toNat : Int) == 101) = false) (h2 : ((c.toNat : Int) == 69) = false) (h3 : ((c.toNat : Int) == 45) = false) (h4 : ((c.toNat : Int) == 46) = false) (hi : T.ie = true) (d1 : 48 <= (c.toNat : Int)) (d2 : (c.toNat : Int) <= 57)
    (hT : T' = { T with ed := T.ed + 1, ex := if T.ex < 999999 then T.ex * 10 + dv c else T.ex })
 | dman (h1 : ((c.toNat : Int) == 101) = false) (h2 : ((c.toNat : Int) == 69) = false) (h3 : ((c.toNat : Int) == 45) = false) (h4 : ((c.toNat : Int) == 46) = false) (hi : T.ie = false) (d1 : 48 <= (c.toNat : Int)) (d2 : (c.toNat : Int) <= 57)
    (hT : T' = { T with d := T.d ++ [dv c], pt := if T.bh then T.pt else T.pt + 1 })
 | other (h1 : ((c.toNat : Int) == 101) = false) (h2 : ((c.toNat : Int) == 69) = false) (h3 : T.ie = false ∨ ((c.toNat : Int) == 45) = false) (h4 : ((c.toNat : Int) == 46) = false) (dn : (c.toNat : Int) < 48 ∨ 57 < (c.toNat : Int)) (hT : T' = T)
theorem byte_is {c : UInt8} {n : Nat} (hn : n < 256) (h : c = UInt8.ofNat n) : ((c.toNat : Int) == (n : Int)) = true := (byte_eq hn).2 h
theorem byte_not {c : UInt8} {n : Nat} (hn : n < 256) (h : ¬ c = UInt8.ofNat n) : ((c.toNat : Int) == (n : Int)) = false := by
 rw [Bool.eq_false_iff]; intro hh; exact h ((byte_eq hn).1 hh)
theorem wayC (c : UInt8) (T : Sc) : WayC c T (step T c) := by
 by_cases c1 : c = 101
 ·exact .e1 (byte_is (n := 101) (by decide) c1) (by unfold step; rw [if_pos (Or.inl c1)])
 have h1 : ((c.toNat : Int) == 101) = false := byte_not (n := 101) (by decide) c1
 by_cases c2 : c = 69
 ·exact .e2 h1 (byte_is (n := 69) (by decide) c2) (by unfold step; rw [if_pos (Or.inr c2)])
 have h2 : ((c.toNat : Int) == 69) = false := byte_not (n := 69) (by decide) c2
 have k1 : ¬ (c = 101 ∨ c = 69) := fun h => h.elim c1 c2
 by_cases c3 : c = 45
 ·have hb := byte_is (n := 45) (by decide) c3
  cases hi : T.ie
  ·refine .other h1 h2 (Or.inl hi) (by rw [c3]; rfl) (by rw [c3]; decide) ?_
   unfold step
   rw [if_neg k1, if_neg (by simp [hi]), if_neg (by rw [c3]; decide), if_neg (by simp [hi]), if_neg (by rw [c3]; decide)]
  ·exact .neg h1 h2 hi hb (by unfold step; rw [if_neg k1, if_pos ⟨hi, c3⟩])
 have h3 : ((c.toNat : Int) == 45) = false := byte_not (n := 45) (by decide) c3
 by_cases c4 : c = 46
 ·exact .point h1 h2 h3 (byte_is (n := 46) (by decide) c4) (by unfold step; rw [if_neg k1, if_neg (fun h => c3 h.2), if_pos c4])
 have h4 : ((c.toNat : Int) == 46) = false := byte_not (n := 46) (by decide) c4
 cases hd : isD c
 ·have dn : (c.toNat : Int) < 48 ∨ 57 < (c.toNat : Int) := by have := of_decide_eq_false hd; omega
  refine .other h1 h2 (Or.inr h3) h4 dn ?_
  unfold step
  rw [if_neg k1, if_neg (fun h => c3 h.2), if_neg c4, if_neg (by simp [hd]), if_neg (by simp [hd])]
 ·have dd := of_decide_eq_true hd
  cases hi : T.ie
  ·exact .dman h1 h2 h3 h4 hi dd.1 dd.2 (step_digit hd hi)
  ·exact .dexp h1 h2 h3 h4 hi dd.1 dd.2 (step_exp hd hi)
theorem scan_snoc (l : List UInt8) (c : UInt8) : scan (l ++ [c]) = step (scan l) c := by
 unfold scan; rw [List.foldl_append]; rfl
theorem take_next (s : ByteArray) (k : Nat) (h : k < s.size) : s.data.toList.take (k + 1) = s.data.toList.take k ++ [s[k]] := by
 rw [List.take_succ_eq_append_getElem (by simpa using h)]; rfl
end Fx
def ints (l : List Nat) : List Value := l.map fun (n : Nat) => .int .i64 (n : Int)
def Looked (w : World) (k : Nat) (T : Fx.Sc) (v4 v5 v6 v7 v8 v9 v10 v11 : Value) (wr : World) : Prop :=
 v5 = .int .i64 (T.pt : Nat) /\ v6 = .bool T.bh /\ v7 = .int .i64 (T.ex : Nat) /\ v8 = .int .i64 (T.ed : Nat) /\ v9 = .bool T.en /\ v10 = .bool T.ie /\ v11 = .int .i64 (k : Nat) /\
 wr.ownsRow w.heap.size 3 1 v4 T.d.length (ints T.d) /\ Below w.heap.size w wr /\ T.d.length <= k /\ T.pt <= k /\ T.ed <= k /\ T.ex <= 9999999
theorem rlength_is (s : ByteArray) (hs : s.size <= 100000) : Hid (∀ w : World, Calls Try.prog 99 #[.string s] w fun e w' => e = .returned (.int .i64 (Fx.len s.data.toList : Nat)) /\ w = w') :=
 Lib.hid fun w => rlength_any s w (by unfold maxLen; omega)
theorem rparse_no (s : ByteArray) (w : World) (hs : s.size <= 100000) (hn : Fx.isDec s.data.toList = false) :
 Calls Try.prog 100 #[.string s] w fun e w' => e = .returned (.tuple #[.int .i64 0, .bool false]) /\ Below w.heap.size w w' := by
 have hl : s.data.toList.length = s.size := by simp
 have C := rlength_is s hs
 have h1 := of_decide_eq_false hn
 have h2 := Fx.len_hi s.data.toList
 rw [hl] at h1 h2
 generalize Fx.len s.data.toList = m at *
 clear hn hl
 by_cases h0 : s.size = 0
 ·have e0 : ((s.size : Int) == 0) = true := by rw [beq_iff_eq]; omega
  clear h0 h1
  go_enter Try.func100, Try.ntmps100
  go_wp2_with fail
  go_ret2
  exact ⟨rfl, Below.refl _ _⟩
 ·have e0 : ((s.size : Int) == 0) = false := by rw [beq_eq_false_iff_ne]; omega
  have e1 : ((m : Int) != (s.size : Int)) = true := by rw [bne_iff_ne]; omega
  have e2 : ((m : Int) == (s.size : Int)) = false := by rw [beq_eq_false_iff_ne]; omega
  clear h0 h1
  go_enter Try.func100, Try.ntmps100
  go_wp2_with (go_at_call 99; ((with_reducible refine (C.out _).mono ?_); rintro e w' ⟨rfl, rfl⟩))
  go_ret2
  exact ⟨rfl, Below.refl _ _⟩
theorem rparse_yes (s : ByteArray) (w : World) (hs : s.size <= 100000) (hn : Fx.isDec s.data.toList = true) :
 Calls Try.prog 100 #[.string s] w fun e w' => e = .returned (.tuple #[.int .i64 (Fx.num s.data.toList), .bool true]) /\ Below w.heap.size w w' := by
 have hl : s.data.toList.length = s.size := by simp
 have C := rlength_is s hs
 have h1 := of_decide_eq_true hn
 rw [hl] at h1
 rw [h1.2] at C
 have hp : 0 < s.size := by omega
 have e0 : ((s.size : Int) == 0) = false := by rw [beq_eq_false_iff_ne]; omega
 have e1 : ((s.size : Int) != (s.size : Int)) = false := by simp
 obtain ⟨i0, hi, hz0, hz1, hz2⟩ := info_parts Try.info3
 have HN := Lib.hid hn
 clear hn hl h1
 go_enter Try.func100, Try.ntmps100
 go_wp2_with (go_at_call 99; ((with_reducible refine (C.out _).mono ?_); rintro e w' ⟨rfl, rfl⟩))
 clear C e1
 go_loopw [4, 5, 6, 7, 8, 9, 10, 11] (fun v4 v5 v6 v7 v8 v9 v10 v11 wr => ∃ k : Nat, k <= s.size /\ ∃ T, Hid (Fx.scan (s.data.toList.take k) = T) /\ Looked w k T v4 v5 v6 v7 v8 v9 v10 v11 wr) (fun _ _ _ _ _ _ _ v11 _ => s.size - (intOf v11).toNat)
 case atStart =>
  refine ⟨0, Nat.zero_le _, Fx.sc0, Lib.hid rfl, rfl, rfl, rfl, rfl, rfl, rfl, rfl, World.ownsRow_nil _ _ _ _, Below.refl _ _, ?_, ?_, ?_, ?_⟩ <;> decide
 case round =>
  obtain ⟨k, hk, T, hT, rfl, rfl, rfl, rfl, rfl, rfl, rfl, hown, hbel, q1, q2, q3, q4⟩ := hrel
  by_cases hlt : k < s.size
  ·have hw := Fx.wayC s[k] T
   have hT' : Hid (Fx.scan (s.data.toList.take (k + 1)) = Fx.step T s[k]) := Lib.hid (by rw [Fx.take_next s k hlt, Fx.scan_snoc, hT.out])
   generalize Fx.step T s[k] = T' at *
   obtain ⟨Td, Tp, Tb, Tx, Tn, Tg, Ti⟩ := T
   have HB := Lib.hid hbel
   clear hT hbel
   dsimp only at *
   rcases hw with ⟨c1, rfl⟩ | ⟨c1, c2, rfl⟩ | ⟨c1, c2, ci, c3, rfl⟩ | ⟨c1, c2, c3, c4, rfl⟩ | ⟨c1, c2, c3, c4, ci, d1, d2, hv⟩ | ⟨c1, c2, c3, c4, ci, d1, d2, hv⟩ | ⟨c1, c2, c3, c4, dn, rfl⟩
   ·go_wp2_with fail
    go_roundw
    case rel => exact ⟨k + 1, by omega, _, hT', rfl, rfl, rfl, rfl, rfl, rfl, by go_num, hown, HB.out, by dsimp only; omega, by dsimp only; omega, by dsimp only; omega, q4⟩
    case measure => simp [intOf]; omega
   ·go_wp2_with fail
    go_roundw
    case rel => exact ⟨k + 1, by omega, _, hT', rfl, rfl, rfl, rfl, rfl, rfl, by go_num, hown, HB.out, by dsimp only; omega, by dsimp only; omega, by dsimp only; omega, q4⟩
    case measure => simp [intOf]; omega
   ·subst ci
    go_wp2_with fail
    go_roundw
    case rel => exact ⟨k + 1, by omega, _, hT', rfl, rfl, rfl, rfl, rfl, rfl, by go_num, hown, HB.out, by dsimp only; omega, by dsimp only; omega, by dsimp only; omega, q4⟩
    case measure => simp [intOf]; omega
   ·cases Ti
    all_goals
     go_wp2_with fail
     go_roundw
     case rel => exact ⟨k + 1, by omega, _, hT', rfl, rfl, rfl, rfl, rfl, rfl, by go_num, hown, HB.out, by dsimp only; omega, by dsimp only; omega, by dsimp only; omega, q4⟩
     case measure => simp [intOf]; omega
   ·subst ci
    have hdv := Fx.dv_le (Fx.isD_of d1 d2)
    have hsub := Lib.hid (sub_byte d1)
    have HV := Lib.hid hv
    clear hv
    by_cases hx : (Tx : Int) < 999999
    ·have hv := HV.out
     dsimp only at hv
     rw [if_pos (by omega)] at hv
     clear HV
     subst hv
     go_wp2_with fail
     go_roundw
     case rel => exact ⟨k + 1, by omega, _, hT', rfl, rfl, congrArg (Value.int .i64) (by have := hsub.out; dsimp only; omega), by go_num, rfl, rfl, by go_num, hown, HB.out, by dsimp only; omega, by dsimp only; omega, by dsimp only; omega, by dsimp only; omega⟩
     case measure => simp [intOf]; omega
    ·have hv := HV.out
     dsimp only at hv
     rw [if_neg (by omega)] at hv
     clear HV
     subst hv
     go_wp2_with fail
     go_roundw
     case rel => exact ⟨k + 1, by omega, _, hT', rfl, rfl, rfl, by go_num, rfl, rfl, by go_num, hown, HB.out, by dsimp only; omega, by dsimp only; omega, by dsimp only; omega, by dsimp only; omega⟩
     case measure => simp [intOf]; omega
   ·subst ci
    have hdv := Fx.dv_le (Fx.isD_of d1 d2)
    have hsub := Lib.hid (sub_byte d1)
    have hbs := HB.out.size
    cases Tb
    all_goals
     dsimp only at hv
     first | rw [if_pos rfl] at hv | rw [if_neg (by decide)] at hv
     subst hv
     go_wp2_with (first | (at_builtin; refine wpList_append_own _ rfl _ _ 39 rfl w.heap.size 3 i0 (.int .i64 0) 1 8 Try.underlying39 hi hz0 hz1 hz2 rfl (by decide) _ _ _ rfl (hown.alloc _) ⟨wr.heap.size, 0, none⟩ 1 1 [.int .i64 ((s[k].toNat : Int) - 48)] rfl rfl ?c1 ?c2 ?c3 ?c4 ?c5 ?_))
     case c1 =>
      intro j u hj
      match j, hj with
      | 0, hj => simp only [List.getElem?_cons_zero, Option.some.injEq] at hj; subst hj; simp [Addr.add, go_sem]
     case c2 => simp [Value.oneCell']
     case c3 => unfold maxLen; omega
     case c4 => omega
     case c5 => simp; omega
     intro v' w1 hown1 hgrow _
     have hb1 : Hid (Below w.heap.size w w1) := Lib.hid ((HB.out.alloc hbs _).grown hgrow (by simp; omega) (fun k hk => (hown.lt k hk).1))
     have ho1 : w1.ownsRow w.heap.size 3 1 v' (Td ++ [Fx.dv s[k]]).length (ints (Td ++ [Fx.dv s[k]])) := by
      rw [hsub.out] at hown1
      unfold ints at *
      rw [List.map_append, List.length_append]
      exact hown1
     clear hown1 hgrow hown
     go_wp2_with fail
     go_roundw
     case rel => exact ⟨k + 1, by omega, _, hT', by first | rfl | go_num, rfl, rfl, rfl, rfl, rfl, by go_num, ho1, hb1.out, by simp; omega, by dsimp only; omega, by dsimp only; omega, q4⟩
     case measure => simp [intOf]; omega
   ·rcases c3 with ci | c3
    ·subst ci
     rcases dn with dn | dn
     all_goals
      go_wp2_with fail
      go_roundw
      case rel => exact ⟨k + 1, by omega, _, hT', rfl, rfl, rfl, rfl, rfl, rfl, by go_num, hown, HB.out, by dsimp only; omega, by dsimp only; omega, by dsimp only; omega, q4⟩
      case measure => simp [intOf]; omega
    ·have d1 : decide (48 <= (s[k].toNat : Int)) = true ∨ decide (48 <= (s[k].toNat : Int)) = false := by cases decide (48 <= (s[k].toNat : Int)) <;> simp
     cases Ti
     all_goals
      rcases dn with dn | dn
      all_goals
       go_wp2_with fail
       go_roundw
       case rel => exact ⟨k + 1, by omega, _, hT', rfl, rfl, rfl, rfl, rfl, rfl, by go_num, hown, HB.out, by dsimp only; omega, by dsimp only; omega, by dsimp only; omega, q4⟩
       case measure => simp [intOf]; omega
  ·have hT2 : T = Fx.sc2 s.data.toList := by
    rw [<- hT.out, List.take_of_length_le (by simp; omega)]
    exact Fx.scan_dec HN.out
   subst hT2
   clear hT
   have hx := Fx.exp_ref s.data.toList
   have hlen := Fx.digs_pos HN.out
   have hg : Hid (∀ i, (Fx.digs s.data.toList).getD i 0 = Fx.dgt s.data.toList i) := Lib.hid (Fx.digs_get _)
   have hle : Hid (∀ i, Fx.dgt s.data.toList i <= 9) := Lib.hid (Fx.dgt_le _)
   have hnum : Hid (Fx.num s.data.toList = if Fx.at' s.data.toList 0 = 45 then - min ((Fx.V (Fx.dgt s.data.toList) ((Fx.place0 s.data.toList : Int) + Fx.expo s.data.toList + 3).toNat : Nat) : Int) 1099511627776 else min ((Fx.V (Fx.dgt s.data.toList) ((Fx.place0 s.data.toList : Int) + Fx.expo s.data.toList + 3).toNat : Nat) : Int) 1099511627776) := Lib.hid rfl
   have hex : Hid (Fx.expo s.data.toList = if decide (Fx.spE s.data.toList ≠ Fx.spD s.data.toList /\ Fx.at' s.data.toList (Fx.spD s.data.toList + 1) = 45) = true then - (if Fx.spE s.data.toList = Fx.spD s.data.toList then 0 else (Fx.expMag s.data.toList : Int)) else (if Fx.spE s.data.toList = Fx.spD s.data.toList then 0 else (Fx.expMag s.data.toList : Int))) := Lib.hid (Fx.expo_two _)
   unfold Fx.sc2 at *
   dsimp only at *
   rw [<- hx] at hex
   have hbd := Fx.expo_bd s.data.toList
   generalize decide (Fx.spE s.data.toList ≠ Fx.spD s.data.toList /\ Fx.at' s.data.toList (Fx.spD s.data.toList + 1) = 45) = G at *
   generalize decide (Fx.spE s.data.toList ≠ Fx.spD s.data.toList) = Gi at *
   generalize decide (Fx.spW s.data.toList < Fx.spD s.data.toList) = Gb at *
   generalize Fx.expo s.data.toList = x at *
   obtain ⟨r, hr⟩ : ∃ r, r = Fx.num s.data.toList := ⟨_, rfl⟩
   have HRR := Lib.hid hr.symm
   rw [<- hr] at hnum
   clear hr
   generalize Fx.exRef s.data.toList = ex at *
   generalize Fx.edRef s.data.toList = ed at *
   generalize Fx.place0 s.data.toList = pl at *
   generalize Fx.digs s.data.toList = D at *
   generalize Fx.dgt s.data.toList = f at *
   clear hx HN
   have HAT := Lib.hid (Fx.get_at s 0 hp)
   have HB := Lib.hid hbel
   clear hbel
   obtain ⟨g, cap, rfl, hgb⟩ : ∃ g cap, u4 = .slice (some ⟨g, 0, none⟩) D.length cap /\ w.heap.size <= g := by
    rcases hown.2 with ⟨_, h0⟩ | ⟨g, cap, cur, hv, hb, _⟩
    ·omega
    ·exact ⟨g, cap, hv, hb⟩
   go_upto_region 28 with fail
   go_cut [87] (fun s87 wx => s87 = .bool (decide (999999 < (ex : Int) ∨ 6 < (ed : Int))) /\ wr = wx)
   case first =>
    by_cases t1 : 999999 < (ex : Int)
    ·go_wp2_with fail
     go_meet
     exact ⟨by congr 1; symm; exact decide_eq_true (Or.inl t1), rfl⟩
    ·by_cases t2 : 6 < (ed : Int)
     ·go_wp2_with fail
      go_meet
      exact ⟨by congr 1; symm; exact decide_eq_true (Or.inr t2), rfl⟩
     ·go_wp2_with fail
      go_meet
      exact ⟨by congr 1; symm; exact decide_eq_false (by omega), rfl⟩
   case rest =>
    obtain ⟨rfl, rfl⟩ := hcut
    obtain ⟨m, hm, m0, m1⟩ : ∃ m : Int, m = (if 999999 < ex ∨ 6 < ed then (999999 : Int) else ex) /\ 0 <= m /\ m <= 999999 := ⟨_, rfl, by split <;> omega, by split <;> omega⟩
    rw [<- hm] at hex
    have HM := Lib.hid hm
    clear hm
    go_upto_if 87 with fail
    go_cut [7] (fun s7 wx => s7 = .int .i64 m /\ wr = wx)
    case first =>
     by_cases t1 : 999999 < (ex : Int) ∨ 6 < (ed : Int)
     ·rw [decide_eq_true t1]
      have e1 : m = 999999 := by rw [HM.out, if_pos (by omega)]
      clear HM
      go_wp2_with fail
      go_meet
      exact ⟨by rw [e1], rfl⟩
     ·rw [decide_eq_false t1]
      have e1 : Hid (m = ex) := Lib.hid (by rw [HM.out, if_neg (by omega)])
      clear HM
      go_wp2_with fail
      go_meet
      exact ⟨by rw [e1.out], rfl⟩
    case rest =>
     obtain ⟨rfl, rfl⟩ := hcut
     clear HM
     go_upto_if 88 with fail
     go_cut [7] (fun s7 wx => s7 = .int .i64 x /\ wr = wx)
     case first =>
      cases G
      ·have e1 : Hid (x = m) := Lib.hid (by rw [hex.out, if_neg (by decide)])
       clear hex
       go_wp2_with fail
       go_meet
       exact ⟨by rw [e1.out], rfl⟩
      ·have e1 : Hid (x = -m) := Lib.hid (by rw [hex.out, if_pos rfl])
       clear hex
       go_wp2_with fail
       go_meet
       exact ⟨by rw [e1.out], rfl⟩
     case rest =>
      obtain ⟨rfl, rfl⟩ := hcut
      clear hex m0 m1
      obtain ⟨hx1, hx2⟩ := hbd
      have hcell : Hid (∀ i, i < D.length -> wr.cell? ⟨g, i, none⟩ = some (.int .i64 (f i : Nat))) := Lib.hid fun i hi => by
       rw [hown.cellAt i (by omega)]
       unfold ints
       rw [List.getElem?_map, <- hg.out i, List.getD_eq_getElem?_getD, List.getElem?_eq_getElem hi]
       rfl
      have hz : Hid (∀ i, D.length <= i -> f i = 0) := Lib.hid fun i hi => by
       rw [<- hg.out i, List.getD_eq_getElem?_getD, List.getElem?_eq_none hi]; rfl
      clear hown hg
      generalize hP : (pl : Int) + x + 3 = P at hnum
      have HP := Lib.hid hP
      clear hP
      have hP1 : (pl : Int) + x + 3 <= 2000000 := by omega
      have hP2 : -2000000 <= (pl : Int) + x + 3 := by omega
      go_wp2_with fail
      go_loop [13, 14] (fun n i => ∃ t : Nat, (t : Int) <= max ((pl : Int) + x + 3) 0 /\ i = .int .i64 t /\ n = .int .i64 (Fx.V f t : Nat) /\ Fx.V f t <= 1099511627775) (fun _ i => 20000000 - (intOf i).toNat)
      case atStart => exact ⟨0, by omega, rfl, rfl, Nat.zero_le _⟩
      case round =>
       obtain ⟨t, ht, rfl, rfl, hv⟩ := hrel
       have hf := hle.out t
       have hV := Lib.hid (Fx.V_succ f t)
       have hfin : Hid (∀ n : Int, n = min ((Fx.V f P.toNat : Nat) : Int) 1099511627776 -> (s[0] = 45 -> r = -n) /\ (¬ s[0] = 45 -> r = n)) := Lib.hid fun n h => by
        rw [hnum.out, HAT.out, h]
        exact ⟨fun h => if_pos h, fun h => if_neg h⟩
       have hPP := HP
       clear hnum HAT HP
       by_cases h1 : (t : Int) < (pl : Int) + x + 3
       ·by_cases h2 : t < D.length
        ·have hc := hcell.out t h2
         have fz := hz
         clear hcell hz
         have CS := Lib.hid fun w => rstop_min ((Fx.V f t : Int) * 10 + (f t : Int)) w (by omega)
         by_cases h3 : Fx.V f t * 10 + f t <= 1099511627775
         ·have hm : min ((Fx.V f t : Int) * 10 + (f t : Int)) 1099511627776 = (Fx.V f t : Int) * 10 + (f t : Int) := by omega
          have he : (((Fx.V f t : Int) * 10 + (f t : Int)) == 1099511627776) = false := by rw [beq_eq_false_iff_ne]; omega
          clear hPP hfin fz
          go_wp2_with (go_at_call 108; ((with_reducible refine (CS.out _).mono ?_); rintro e w' ⟨rfl, rfl⟩))
          go_round
          case rel => exact ⟨t + 1, by omega, by go_num, by rw [hV.out]; go_num, by rw [hV.out]; omega⟩
          case measure => simp [intOf]; omega
         ·have hm : min ((Fx.V f t : Int) * 10 + (f t : Int)) 1099511627776 = 1099511627776 := by omega
          have hZ := hfin.out 1099511627776 (by
           have := Fx.V_le f (a := t + 1) (b := P.toNat) (by have := hPP.out; omega)
           have := hV.out
           omega)
          clear hPP hfin fz hV
          by_cases h45 : s[0] = 45
          ·have hb45 : ((s[0].toNat : Int) == 45) = true := by rw [h45]; rfl
           have HR := Lib.hid (hZ.1 h45)
           clear hZ h45
           go_wp2_with (go_at_call 108; ((with_reducible refine (CS.out _).mono ?_); rintro e w' ⟨rfl, rfl⟩))
           go_ret2
           exact ⟨by rw [HRR.out, HR.out]; rfl, HB.out⟩
          ·have hb45 : ((s[0].toNat : Int) == 45) = false := Fx.byte_not (n := 45) (by decide) h45
           have HR := Lib.hid (hZ.2 h45)
           clear hZ h45
           go_wp2_with (go_at_call 108; ((with_reducible refine (CS.out _).mono ?_); rintro e w' ⟨rfl, rfl⟩))
           go_ret2
           exact ⟨by rw [HRR.out, HR.out]; rfl, HB.out⟩
        ·have f0 := hz.out t (by omega)
         rw [f0] at hV
         have hzz : Fx.V f t = 0 -> Hid (Fx.V f P.toNat = 0) := fun h => Lib.hid (Fx.V_still f (a := t) h (fun i hi => hz.out i (by omega)) (by have := hPP.out; omega))
         clear hcell hz f0 hf
         by_cases h4 : Fx.V f t = 0
         ·have hZ := hfin.out (Fx.V f t) (by rw [(hzz h4).out, h4]; rfl)
          have e4 : ((Fx.V f t : Int) == 0) = true := by rw [beq_iff_eq]; omega
          clear hPP hfin hzz hV h4
          by_cases h45 : s[0] = 45
          ·have hb45 : ((s[0].toNat : Int) == 45) = true := by rw [h45]; rfl
           have HR := Lib.hid (hZ.1 h45)
           clear hZ h45
           go_wp2_with fail
           go_ret2
           exact ⟨by rw [HRR.out, HR.out]; rfl, HB.out⟩
          ·have hb45 : ((s[0].toNat : Int) == 45) = false := Fx.byte_not (n := 45) (by decide) h45
           have HR := Lib.hid (hZ.2 h45)
           clear hZ h45
           go_wp2_with fail
           go_ret2
           exact ⟨by rw [HRR.out, HR.out]; rfl, HB.out⟩
         ·have e4 : ((Fx.V f t : Int) == 0) = false := by rw [beq_eq_false_iff_ne]; omega
          have CS := Lib.hid fun w => rstop_min ((Fx.V f t : Int) * 10) w (by omega)
          by_cases h3 : Fx.V f t * 10 <= 1099511627775
          ·have hm : min ((Fx.V f t : Int) * 10) 1099511627776 = (Fx.V f t : Int) * 10 := by omega
           have he : (((Fx.V f t : Int) * 10) == 1099511627776) = false := by rw [beq_eq_false_iff_ne]; omega
           clear hPP hfin hzz h4
           go_wp2_with (go_at_call 108; ((with_reducible refine (CS.out _).mono ?_); rintro e w' ⟨rfl, rfl⟩))
           go_round
           case rel => exact ⟨t + 1, by omega, by go_num, by rw [hV.out]; go_num, by rw [hV.out]; omega⟩
           case measure => simp [intOf]; omega
          ·have hm : min ((Fx.V f t : Int) * 10) 1099511627776 = 1099511627776 := by omega
           have hZ := hfin.out 1099511627776 (by
            have := Fx.V_le f (a := t + 1) (b := P.toNat) (by have := hPP.out; omega)
            have := hV.out
            omega)
           clear hPP hfin hzz hV h4
           by_cases h45 : s[0] = 45
           ·have hb45 : ((s[0].toNat : Int) == 45) = true := by rw [h45]; rfl
            have HR := Lib.hid (hZ.1 h45)
            clear hZ h45
            go_wp2_with (go_at_call 108; ((with_reducible refine (CS.out _).mono ?_); rintro e w' ⟨rfl, rfl⟩))
            go_ret2
            exact ⟨by rw [HRR.out, HR.out]; rfl, HB.out⟩
           ·have hb45 : ((s[0].toNat : Int) == 45) = false := Fx.byte_not (n := 45) (by decide) h45
            have HR := Lib.hid (hZ.2 h45)
            clear hZ h45
            go_wp2_with (go_at_call 108; ((with_reducible refine (CS.out _).mono ?_); rintro e w' ⟨rfl, rfl⟩))
            go_ret2
            exact ⟨by rw [HRR.out, HR.out]; rfl, HB.out⟩
       ·have hZ := hfin.out (Fx.V f t) (by
         rw [show P.toNat = t by have := hPP.out; omega]
         omega)
        clear hPP hfin hV hcell hz hf
        by_cases h45 : s[0] = 45
        ·have hb45 : ((s[0].toNat : Int) == 45) = true := by rw [h45]; rfl
         have HR := Lib.hid (hZ.1 h45)
         clear hZ h45
         go_wp2_with fail
         go_ret2
         exact ⟨by rw [HRR.out, HR.out]; rfl, HB.out⟩
        ·have hb45 : ((s[0].toNat : Int) == 45) = false := Fx.byte_not (n := 45) (by decide) h45
         have HR := Lib.hid (hZ.2 h45)
         clear hZ h45
         go_wp2_with fail
         go_ret2
         exact ⟨by rw [HRR.out, HR.out]; rfl, HB.out⟩
def Pv (v : Int) (w : World) (e : Ending) (w' : World) : Prop := ∃ ok : Bool, e = .returned (.tuple #[.int .i64 v, .bool ok]) /\ Below w.heap.size w w'
theorem rparse_pv (s : ByteArray) (w : World) (hs : s.size <= 100000) : Calls Try.prog 100 #[.string s] w (Pv (Tk.pv s.data.toList) w) := by
 cases hd : Fx.isDec s.data.toList
 ·refine (rparse_no s w hs hd).mono ?_
  rintro e w' ⟨he, hb⟩
  exact ⟨false, by rw [he]; unfold Tk.pv; rw [if_neg (by rw [hd]; decide)], hb⟩
 ·refine (rparse_yes s w hs hd).mono ?_
  rintro e w' ⟨he, hb⟩
  exact ⟨true, by rw [he]; unfold Tk.pv; rw [if_pos hd], hb⟩
def Now (w : World) (v : World) : Prop := Below (w.heap.size + 1) (w.alloc zeroTok) v
theorem Now.refl (w : World) : Now w (w.alloc zeroTok) := Below.refl _ _
theorem Now.next {w v v' : World} (h : Now w v) (h2 : Below v.heap.size v v') : Now w v' := quo_below h h2
theorem Now.on {w v : World} {l : List Int} {b off : Nat} (h : Now w v) (hb : b < w.heap.size) (hp : On w l b off) : On v l b off := fun j hj => (h.cell (p := ⟨b, off + j, none⟩) (by show b < _; omega)).trans ((World.cell?_alloc_lt w _ _ (by exact hb)).trans (hp j hj))
theorem Now.lt {w v : World} {b : Nat} (h : Now w v) (hb : b < w.heap.size) : b < v.heap.size := by have := quo_size h; omega
theorem nexted0 {r : Int × ByteArray × Int × Nat} {kind n : Int} {t : ByteArray} {x : Int} {k : Nat} {w : World} (hr : r = (kind, t, n, k)) (hx : x = k) (o : Obj) :
 Tokened r.1 r.2.1 r.2.2.1 r.2.2.2 w (.returned (.tuple #[tokV kind t n, .int .i64 x])) (w.alloc o) := by
 subst hr; subst hx
 exact ⟨rfl, (Below.refl _ w).alloc (Nat.le_refl _) _⟩
def Nexted (r : Int × ByteArray × Int × Nat) (w : World) (e : Ending) (w' : World) : Prop := Tokened r.1 r.2.1 r.2.2.1 r.2.2.2 w e w'
theorem nexted {r : Int × ByteArray × Int × Nat} {kind n : Int} {t : ByteArray} {x : Int} {k : Nat} {w w2 : World} (hr : r = (kind, t, n, k)) (hx : x = k) (h : Now w w2) (a b c : Value) :
 Nexted r w (.returned (.tuple #[tokV kind t n, .int .i64 x])) (((w2.setCell ⟨w.heap.size, 0, none⟩ a).setCell ⟨w.heap.size, 1, none⟩ b).setCell ⟨w.heap.size, 2, none⟩ c) := by
 subst hr; subst hx
 exact ⟨rfl, tok_below h _ _ _⟩
theorem tnext_quote (l : List Int) (k : Nat) (b off cap : Nat) (w : World) (hm : l.length <= 65000) (hk : k < l.length) (_hN : ∀ c ∈ l, 0 <= c) (hb : b < w.heap.size) (hp : On w l b off) (hc : Ru.g l k = 34 ∨ Ru.g l k = 39) :
 Calls Try.prog 79 #[.slice (some ⟨b, off, none⟩) l.length cap, .int .i64 k] w (Nexted (Tk.nxt l k) w) := by
 have HD := Lib.hid (show Tk.nxt l k = ((Tk.qq l (Ru.g l k) (k + 1)).1, Tk.str (Tk.qq l (Ru.g l k) (k + 1)).2.1, 0, (Tk.qq l (Ru.g l k) (k + 1)).2.2) by unfold Tk.nxt; rw [if_pos hc])
 have hn := Now.refl w
 have hcell := hp k hk
 have CQ := Lib.hid (tquoted_any l k b off cap (w.alloc zeroTok) hm hk (hn.lt hb) (hn.on hb hp))
 clear hp
 generalize Tk.qq l (Ru.g l k) (k + 1) = q at *
 obtain ⟨q1, q2, q3⟩ := q
 simp only at HD CQ
 rw [HD.out]
 generalize Ru.g l k = c at *
 rcases hc with rfl | rfl
 all_goals
  go_enter Try.func79, Try.ntmps79
  go_wp2_with (go_at_call 94; ((with_reducible refine (CQ.out).mono ?_); rintro e w2 ⟨he, b2⟩; unfold tokV at he; subst he; have hb2 := hn.next b2; obtain ⟨z0, z1, z2, f0, f1, f2⟩ := tok_cells hb2))
  refine bodyPost_ret (v := .tuple #[tokV q1 (Tk.str q2) 0, .int .i64 q3]) (by simp [results, tokV, Try.results79, go_sem, z0, z1, z2]) rfl (nexted rfl rfl hb2 _ _ _)
theorem tnext_hash (l : List Int) (k : Nat) (b off cap : Nat) (w : World) (hm : l.length <= 65000) (hk : k < l.length) (hN : ∀ c ∈ l, 0 <= c) (hb : b < w.heap.size) (hp : On w l b off) (hc : Ru.g l k = 35) (hh : Ru.witB (Tk.at' l (k + 1)) = true ∨ Tk.esc l (k + 1) = true) :
 Calls Try.prog 79 #[.slice (some ⟨b, off, none⟩) l.length cap, .int .i64 k] w (Nexted (Tk.nxt l k) w) := by
 have HD := Lib.hid (show Tk.nxt l k = (5, Tk.str (Tk.name l (k + 1)).1, 0, (Tk.name l (k + 1)).2) by unfold Tk.nxt; rw [if_neg (by omega), if_pos ⟨hc, hh⟩])
 have hn : Now w (w.alloc (.cells #[.int .i64 0, .string ⟨#[]⟩, .int .i64 0] 36)) := Now.refl w
 have hcell := hp k hk
 have HP := Lib.hid hp
 have CA : Hid (∀ wr, Now w wr -> AtIs l b off cap wr) := Lib.hid fun wr h => (at_is l b off cap wr (by omega) (h.on hb HP.out)).out
 have CE : Hid (∀ wr, Now w wr -> EscIs l b off cap wr) := Lib.hid fun wr h => (esc_is l b off cap wr (by omega) (h.on hb HP.out)).out
 have CB : Hid (∀ wr, Now w wr -> BegsIs l b off cap wr) := Lib.hid fun wr h => (begs_is l b off cap wr (by omega) (h.on hb HP.out)).out
 have CN : Hid (∀ wr, Now w wr -> ∀ (x : Int) (j : Nat), x = j -> j <= l.length -> Calls Try.prog 97 #[.slice (some ⟨b, off, none⟩) l.length cap, .int .i64 x] wr (Named l j wr)) := Lib.hid fun wr h x j hx hj => tname_any l x j hx b off cap wr (by omega) hj (h.lt hb) (h.on hb HP.out)
 have CS := Lib.hid (tascii_any l k b off cap (w.alloc (.cells #[.int .i64 0, .string ⟨#[]⟩, .int .i64 0] 36)) (by omega) (by omega) hN (hn.lt hb) (hn.on hb hp))
 have CL : Hid (∀ wr, Calls Try.prog 99 #[.string (strOfNums (Tk.ascL l k))] wr fun e w' => e = .returned (.int .i64 (Tk.nlen l k : Nat)) /\ wr = w') := rlength_is _ (by have := Tk.ascL_len l k; rw [strOfNums_size]; omega)
 clear hp hN
 rw [hc] at hcell
 rw [HD.out]
 have hR3 : True = True := rfl
 cases hR1 : Ru.witB (Tk.at' l (k + 1))
 ·have hR2 : Tk.esc l (k + 1) = true := by rw [hR1] at hh; exact hh.resolve_left (by decide)
  go_enter Try.func79, Try.ntmps79
  go_wp2_with (first | (go_at_call 93; have X := CA.out _ hn _ _ (cast1 k); (with_reducible refine X.mono ?_); clear X; rintro e w' ⟨he, rfl⟩; (first | rw [hR1] at he | rw [hR2] at he | rw [hR3] at he | skip); subst he) | (go_at_call 95; have X := rwithin_any (Tk.at' l (k + 1)) (w.alloc (.cells #[.int .i64 0, .string ⟨#[]⟩, .int .i64 0] 36)); (with_reducible refine X.mono ?_); clear X; rintro e w' ⟨he, rfl⟩; (first | rw [hR1] at he | rw [hR2] at he | rw [hR3] at he | skip); subst he) | (go_at_call 96; have X := CE.out _ hn _ _ (cast1 k) (by omega); (with_reducible refine X.mono ?_); clear X; rintro e w' ⟨he, rfl⟩; (first | rw [hR1] at he | rw [hR2] at he | rw [hR3] at he | skip); subst he) | (go_at_call 97; have X := CN.out _ hn _ _ (cast1 k) (by omega); (with_reducible refine X.mono ?_); clear X; rintro e w2 ⟨he, b2⟩; (first | rw [hR1] at he | rw [hR2] at he | rw [hR3] at he | skip); subst he; have hb2 := hn.next b2; obtain ⟨z0, z1, z2, f0, f1, f2⟩ := tok_cells hb2))
  refine bodyPost_ret (v := .tuple #[tokV (5) (Tk.str (Tk.name l (k + 1)).1) (0), .int .i64 (((Tk.name l (k + 1)).2 : Nat))]) (by simp [results, tokV, Try.results79, go_sem, z0, z1, z2]) rfl (nexted rfl rfl hb2 _ _ _)
 ·have hR2 : True = True := rfl
  go_enter Try.func79, Try.ntmps79
  go_wp2_with (first | (go_at_call 93; have X := CA.out _ hn _ _ (cast1 k); (with_reducible refine X.mono ?_); clear X; rintro e w' ⟨he, rfl⟩; (first | rw [hR1] at he | rw [hR2] at he | rw [hR3] at he | skip); subst he) | (go_at_call 95; have X := rwithin_any (Tk.at' l (k + 1)) (w.alloc (.cells #[.int .i64 0, .string ⟨#[]⟩, .int .i64 0] 36)); (with_reducible refine X.mono ?_); clear X; rintro e w' ⟨he, rfl⟩; (first | rw [hR1] at he | rw [hR2] at he | rw [hR3] at he | skip); subst he) | (go_at_call 97; have X := CN.out _ hn _ _ (cast1 k) (by omega); (with_reducible refine X.mono ?_); clear X; rintro e w2 ⟨he, b2⟩; (first | rw [hR1] at he | rw [hR2] at he | rw [hR3] at he | skip); subst he; have hb2 := hn.next b2; obtain ⟨z0, z1, z2, f0, f1, f2⟩ := tok_cells hb2))
  refine bodyPost_ret (v := .tuple #[tokV (5) (Tk.str (Tk.name l (k + 1)).1) (0), .int .i64 (((Tk.name l (k + 1)).2 : Nat))]) (by simp [results, tokV, Try.results79, go_sem, z0, z1, z2]) rfl (nexted rfl rfl hb2 _ _ _)
theorem tnext_atkey (l : List Int) (k : Nat) (b off cap : Nat) (w : World) (hm : l.length <= 65000) (hk : k < l.length) (hN : ∀ c ∈ l, 0 <= c) (hb : b < w.heap.size) (hp : On w l b off) (hc : Ru.g l k = 64) (hR1 : Tk.begs l (k + 1) = true) :
 Calls Try.prog 79 #[.slice (some ⟨b, off, none⟩) l.length cap, .int .i64 k] w (Nexted (Tk.nxt l k) w) := by
 have HD := Lib.hid (show Tk.nxt l k = (4, Tk.str (Tk.name l (k + 1)).1, 0, (Tk.name l (k + 1)).2) by rw [Tk.nxt_past ⟨by omega, by omega, fun h => by omega, fun h => by rw [hc] at h; exact absurd h (by decide)⟩]; unfold Tk.rest; rw [if_pos ⟨hc, hR1⟩])
 have hn : Now w (w.alloc (.cells #[.int .i64 0, .string ⟨#[]⟩, .int .i64 0] 36)) := Now.refl w
 have hcell := hp k hk
 have HP := Lib.hid hp
 have CA : Hid (∀ wr, Now w wr -> AtIs l b off cap wr) := Lib.hid fun wr h => (at_is l b off cap wr (by omega) (h.on hb HP.out)).out
 have CE : Hid (∀ wr, Now w wr -> EscIs l b off cap wr) := Lib.hid fun wr h => (esc_is l b off cap wr (by omega) (h.on hb HP.out)).out
 have CB : Hid (∀ wr, Now w wr -> BegsIs l b off cap wr) := Lib.hid fun wr h => (begs_is l b off cap wr (by omega) (h.on hb HP.out)).out
 have CN : Hid (∀ wr, Now w wr -> ∀ (x : Int) (j : Nat), x = j -> j <= l.length -> Calls Try.prog 97 #[.slice (some ⟨b, off, none⟩) l.length cap, .int .i64 x] wr (Named l j wr)) := Lib.hid fun wr h x j hx hj => tname_any l x j hx b off cap wr (by omega) hj (h.lt hb) (h.on hb HP.out)
 have CS := Lib.hid (tascii_any l k b off cap (w.alloc (.cells #[.int .i64 0, .string ⟨#[]⟩, .int .i64 0] 36)) (by omega) (by omega) hN (hn.lt hb) (hn.on hb hp))
 have CL : Hid (∀ wr, Calls Try.prog 99 #[.string (strOfNums (Tk.ascL l k))] wr fun e w' => e = .returned (.int .i64 (Tk.nlen l k : Nat)) /\ wr = w') := rlength_is _ (by have := Tk.ascL_len l k; rw [strOfNums_size]; omega)
 clear hp hN
 have hR2 : True = True := rfl
 have hR3 : True = True := rfl
 rw [hc] at hcell
 rw [HD.out]
 go_enter Try.func79, Try.ntmps79
 go_wp2_with (first | (go_at_call 101; have X := CB.out _ hn _ _ (cast1 k) (by omega); (with_reducible refine X.mono ?_); clear X; rintro e w' ⟨he, rfl⟩; (first | rw [hR1] at he | rw [hR2] at he | rw [hR3] at he | skip); subst he) | (go_at_call 97; have X := CN.out _ hn _ _ (cast1 k) (by omega); (with_reducible refine X.mono ?_); clear X; rintro e w2 ⟨he, b2⟩; (first | rw [hR1] at he | rw [hR2] at he | rw [hR3] at he | skip); subst he; have hb2 := hn.next b2; obtain ⟨z0, z1, z2, f0, f1, f2⟩ := tok_cells hb2))
 refine bodyPost_ret (v := .tuple #[tokV (4) (Tk.str (Tk.name l (k + 1)).1) (0), .int .i64 (((Tk.name l (k + 1)).2 : Nat))]) (by simp [results, tokV, Try.results79, go_sem, z0, z1, z2]) rfl (nexted rfl rfl hb2 _ _ _)
theorem tnext_name (l : List Int) (k : Nat) (b off cap : Nat) (w : World) (hm : l.length <= 65000) (hk : k < l.length) (hN : ∀ c ∈ l, 0 <= c) (hb : b < w.heap.size) (hp : On w l b off) (hpast : Tk.Past l k) (hR1 : Tk.begs l k = true) (hc64 : Ru.g l k = 64 -> Tk.begs l (k + 1) = false) :
 Calls Try.prog 79 #[.slice (some ⟨b, off, none⟩) l.length cap, .int .i64 k] w (Nexted (Tk.nxt l k) w) := by
 have HD := Lib.hid (show Tk.nxt l k = if Tk.at' l (Tk.name l k).2 = 40 then (3, Tk.str (Tk.name l k).1, 0, (Tk.name l k).2 + 1) else (2, Tk.str (Tk.name l k).1, 0, (Tk.name l k).2) by rw [Tk.nxt_past hpast]; unfold Tk.rest; rw [if_neg (fun h => by have := hc64 h.1; rw [this] at h; exact absurd h.2 (by decide)), if_pos hR1])
 have hn : Now w (w.alloc (.cells #[.int .i64 0, .string ⟨#[]⟩, .int .i64 0] 36)) := Now.refl w
 have hcell := hp k hk
 have HP := Lib.hid hp
 have CA : Hid (∀ wr, Now w wr -> AtIs l b off cap wr) := Lib.hid fun wr h => (at_is l b off cap wr (by omega) (h.on hb HP.out)).out
 have CE : Hid (∀ wr, Now w wr -> EscIs l b off cap wr) := Lib.hid fun wr h => (esc_is l b off cap wr (by omega) (h.on hb HP.out)).out
 have CB : Hid (∀ wr, Now w wr -> BegsIs l b off cap wr) := Lib.hid fun wr h => (begs_is l b off cap wr (by omega) (h.on hb HP.out)).out
 have CN : Hid (∀ wr, Now w wr -> ∀ (x : Int) (j : Nat), x = j -> j <= l.length -> Calls Try.prog 97 #[.slice (some ⟨b, off, none⟩) l.length cap, .int .i64 x] wr (Named l j wr)) := Lib.hid fun wr h x j hx hj => tname_any l x j hx b off cap wr (by omega) hj (h.lt hb) (h.on hb HP.out)
 have CS := Lib.hid (tascii_any l k b off cap (w.alloc (.cells #[.int .i64 0, .string ⟨#[]⟩, .int .i64 0] 36)) (by omega) (by omega) hN (hn.lt hb) (hn.on hb hp))
 have CL : Hid (∀ wr, Calls Try.prog 99 #[.string (strOfNums (Tk.ascL l k))] wr fun e w' => e = .returned (.int .i64 (Tk.nlen l k : Nat)) /\ wr = w') := rlength_is _ (by have := Tk.ascL_len l k; rw [strOfNums_size]; omega)
 clear hp hN
 have hc35 : Ru.g l k ≠ 35 := fun h => by rw [Tk.begs_not hk (.inl h)] at hR1; exact absurd hR1 (by decide)
 have hn45 := fun h => Tk.begs_num hk h hR1
 obtain ⟨h34, h39, -, hnum⟩ := hpast
 have hnm := (Tk.name_le l _ k (Nat.le_refl _) (by omega)).2
 rw [HD.out]
 clear HD
 generalize Ru.g l k = c at *
 by_cases hR3 : Tk.at' l (Tk.name l k).2 = 40
 all_goals
  (first | rw [if_pos hR3] | (rw [if_neg hR3]; have e40 := beq_false_of_ne hR3))
  cases hnb : Tk.numB c
  ·obtain ⟨n1, n2, n3, n4⟩ := Tk.numB_no hnb
   by_cases h64 : c = 64
   ·have hR2 := hc64 h64
    clear hc64 hn45 hnum hnb
    subst h64
    go_enter Try.func79, Try.ntmps79
    go_wp2_with (first | (go_at_call 101; have X := CB.out _ hn _ k rfl (by omega); (with_reducible refine X.mono ?_); clear X; rintro e w' ⟨he, rfl⟩; (first | rw [hR1] at he | rw [hR2] at he | rw [hR3] at he | skip); subst he) | (go_at_call 101; have X := CB.out _ hn _ _ (cast1 k) (by omega); (with_reducible refine X.mono ?_); clear X; rintro e w' ⟨he, rfl⟩; (first | rw [hR1] at he | rw [hR2] at he | rw [hR3] at he | skip); subst he) | (go_at_call 98; have X := CS.out; (with_reducible refine X.mono ?_); clear X; rintro e w1 ⟨he, b1⟩; (first | rw [hR1] at he | rw [hR2] at he | rw [hR3] at he | skip); subst he; have hn1 := hn.next b1) | (go_at_call 99; have X := CL.out w1; (with_reducible refine X.mono ?_); clear X; rintro e w' ⟨he, rfl⟩; (first | rw [hR1] at he | rw [hR2] at he | rw [hR3] at he | skip); subst he) | (go_at_call 101; have X := CB.out _ hn1 _ k rfl (by omega); (with_reducible refine X.mono ?_); clear X; rintro e w' ⟨he, rfl⟩; (first | rw [hR1] at he | rw [hR2] at he | rw [hR3] at he | skip); subst he) | (go_at_call 97; have X := CN.out _ hn _ k rfl (by omega); (with_reducible refine X.mono ?_); clear X; rintro e w2 ⟨he, b2⟩; (first | rw [hR1] at he | rw [hR2] at he | rw [hR3] at he | skip); subst he; have hb2 := hn.next b2; obtain ⟨z0, z1, z2, f0, f1, f2⟩ := tok_cells hb2) | (go_at_call 97; have X := CN.out _ hn1 _ k rfl (by omega); (with_reducible refine X.mono ?_); clear X; rintro e w2 ⟨he, b2⟩; (first | rw [hR1] at he | rw [hR2] at he | rw [hR3] at he | skip); subst he; have hb2 := hn1.next b2; obtain ⟨z0, z1, z2, f0, f1, f2⟩ := tok_cells hb2) | (go_at_call 93; have X := CA.out _ hb2 _ (Tk.name l k).2 rfl; (with_reducible refine X.mono ?_); clear X; rintro e w' ⟨he, rfl⟩; (first | rw [hR1] at he | rw [hR2] at he | rw [hR3] at he | skip); subst he))
    first | (refine bodyPost_ret (v := .tuple #[tokV (3) (Tk.str (Tk.name l k).1) (0), .int .i64 (((Tk.name l k).2 : Nat) + 1)]) (by simp [results, tokV, Try.results79, go_sem, z0, z1, z2]) rfl (nexted rfl (by omega) hb2 _ _ _)) | (refine bodyPost_ret (v := .tuple #[tokV (2) (Tk.str (Tk.name l k).1) (0), .int .i64 (((Tk.name l k).2 : Nat))]) (by simp [results, tokV, Try.results79, go_sem, z0, z1, z2]) rfl (nexted rfl rfl hb2 _ _ _))
   ·have hR2 : True = True := rfl
    clear hc64 hn45 hnum hnb
    have e34 : (c == 34) = false := beq_false_of_ne (by omega)
    have e39 : (c == 39) = false := beq_false_of_ne (by omega)
    have e35 : (c == 35) = false := beq_false_of_ne (by omega)
    have e43 : (c == 43) = false := beq_false_of_ne (by omega)
    have e45 : (c == 45) = false := beq_false_of_ne (by omega)
    have e46 : (c == 46) = false := beq_false_of_ne (by omega)
    have e64 : (c == 64) = false := beq_false_of_ne (by omega)
    rcases n4 with n4 | n4
    all_goals
     go_enter Try.func79, Try.ntmps79
     go_wp2_with (first | (go_at_call 101; have X := CB.out _ hn _ k rfl (by omega); (with_reducible refine X.mono ?_); clear X; rintro e w' ⟨he, rfl⟩; (first | rw [hR1] at he | rw [hR2] at he | rw [hR3] at he | skip); subst he) | (go_at_call 101; have X := CB.out _ hn _ _ (cast1 k) (by omega); (with_reducible refine X.mono ?_); clear X; rintro e w' ⟨he, rfl⟩; (first | rw [hR1] at he | rw [hR2] at he | rw [hR3] at he | skip); subst he) | (go_at_call 98; have X := CS.out; (with_reducible refine X.mono ?_); clear X; rintro e w1 ⟨he, b1⟩; (first | rw [hR1] at he | rw [hR2] at he | rw [hR3] at he | skip); subst he; have hn1 := hn.next b1) | (go_at_call 99; have X := CL.out w1; (with_reducible refine X.mono ?_); clear X; rintro e w' ⟨he, rfl⟩; (first | rw [hR1] at he | rw [hR2] at he | rw [hR3] at he | skip); subst he) | (go_at_call 101; have X := CB.out _ hn1 _ k rfl (by omega); (with_reducible refine X.mono ?_); clear X; rintro e w' ⟨he, rfl⟩; (first | rw [hR1] at he | rw [hR2] at he | rw [hR3] at he | skip); subst he) | (go_at_call 97; have X := CN.out _ hn _ k rfl (by omega); (with_reducible refine X.mono ?_); clear X; rintro e w2 ⟨he, b2⟩; (first | rw [hR1] at he | rw [hR2] at he | rw [hR3] at he | skip); subst he; have hb2 := hn.next b2; obtain ⟨z0, z1, z2, f0, f1, f2⟩ := tok_cells hb2) | (go_at_call 97; have X := CN.out _ hn1 _ k rfl (by omega); (with_reducible refine X.mono ?_); clear X; rintro e w2 ⟨he, b2⟩; (first | rw [hR1] at he | rw [hR2] at he | rw [hR3] at he | skip); subst he; have hb2 := hn1.next b2; obtain ⟨z0, z1, z2, f0, f1, f2⟩ := tok_cells hb2) | (go_at_call 93; have X := CA.out _ hb2 _ (Tk.name l k).2 rfl; (with_reducible refine X.mono ?_); clear X; rintro e w' ⟨he, rfl⟩; (first | rw [hR1] at he | rw [hR2] at he | rw [hR3] at he | skip); subst he))
     first | (refine bodyPost_ret (v := .tuple #[tokV (3) (Tk.str (Tk.name l k).1) (0), .int .i64 (((Tk.name l k).2 : Nat) + 1)]) (by simp [results, tokV, Try.results79, go_sem, z0, z1, z2]) rfl (nexted rfl (by omega) hb2 _ _ _)) | (refine bodyPost_ret (v := .tuple #[tokV (2) (Tk.str (Tk.name l k).1) (0), .int .i64 (((Tk.name l k).2 : Nat))]) (by simp [results, tokV, Try.results79, go_sem, z0, z1, z2]) rfl (nexted rfl rfl hb2 _ _ _))
  ·have h45 := hn45 hnb
   have hR2 := hnum hnb
   clear hc64 hn45 hnum hnb
   subst h45
   go_enter Try.func79, Try.ntmps79
   go_wp2_with (first | (go_at_call 101; have X := CB.out _ hn _ k rfl (by omega); (with_reducible refine X.mono ?_); clear X; rintro e w' ⟨he, rfl⟩; (first | rw [hR1] at he | rw [hR2] at he | rw [hR3] at he | skip); subst he) | (go_at_call 101; have X := CB.out _ hn _ _ (cast1 k) (by omega); (with_reducible refine X.mono ?_); clear X; rintro e w' ⟨he, rfl⟩; (first | rw [hR1] at he | rw [hR2] at he | rw [hR3] at he | skip); subst he) | (go_at_call 98; have X := CS.out; (with_reducible refine X.mono ?_); clear X; rintro e w1 ⟨he, b1⟩; (first | rw [hR1] at he | rw [hR2] at he | rw [hR3] at he | skip); subst he; have hn1 := hn.next b1) | (go_at_call 99; have X := CL.out w1; (with_reducible refine X.mono ?_); clear X; rintro e w' ⟨he, rfl⟩; (first | rw [hR1] at he | rw [hR2] at he | rw [hR3] at he | skip); subst he) | (go_at_call 101; have X := CB.out _ hn1 _ k rfl (by omega); (with_reducible refine X.mono ?_); clear X; rintro e w' ⟨he, rfl⟩; (first | rw [hR1] at he | rw [hR2] at he | rw [hR3] at he | skip); subst he) | (go_at_call 97; have X := CN.out _ hn _ k rfl (by omega); (with_reducible refine X.mono ?_); clear X; rintro e w2 ⟨he, b2⟩; (first | rw [hR1] at he | rw [hR2] at he | rw [hR3] at he | skip); subst he; have hb2 := hn.next b2; obtain ⟨z0, z1, z2, f0, f1, f2⟩ := tok_cells hb2) | (go_at_call 97; have X := CN.out _ hn1 _ k rfl (by omega); (with_reducible refine X.mono ?_); clear X; rintro e w2 ⟨he, b2⟩; (first | rw [hR1] at he | rw [hR2] at he | rw [hR3] at he | skip); subst he; have hb2 := hn1.next b2; obtain ⟨z0, z1, z2, f0, f1, f2⟩ := tok_cells hb2) | (go_at_call 93; have X := CA.out _ hb2 _ (Tk.name l k).2 rfl; (with_reducible refine X.mono ?_); clear X; rintro e w' ⟨he, rfl⟩; (first | rw [hR1] at he | rw [hR2] at he | rw [hR3] at he | skip); subst he))
   first | (refine bodyPost_ret (v := .tuple #[tokV (3) (Tk.str (Tk.name l k).1) (0), .int .i64 (((Tk.name l k).2 : Nat) + 1)]) (by simp [results, tokV, Try.results79, go_sem, z0, z1, z2]) rfl (nexted rfl (by omega) hb2 _ _ _)) | (refine bodyPost_ret (v := .tuple #[tokV (2) (Tk.str (Tk.name l k).1) (0), .int .i64 (((Tk.name l k).2 : Nat))]) (by simp [results, tokV, Try.results79, go_sem, z0, z1, z2]) rfl (nexted rfl rfl hb2 _ _ _))
theorem tnext_colon (l : List Int) (k : Nat) (b off cap : Nat) (w : World) (hm : l.length <= 65000) (hk : k < l.length) (hN : ∀ c ∈ l, 0 <= c) (hb : b < w.heap.size) (hp : On w l b off) (hc : Ru.g l k = 58) :
 Calls Try.prog 79 #[.slice (some ⟨b, off, none⟩) l.length cap, .int .i64 k] w (Nexted (Tk.nxt l k) w) := by
 have hR1 : Tk.begs l k = false := Tk.begs_not hk (by omega)
 have HD := Lib.hid (show Tk.nxt l k = (14, ⟨#[]⟩, 0, k + 1) by rw [Tk.nxt_past ⟨by omega, by omega, fun h => by omega, fun h => by rw [hc] at h; exact absurd h (by decide)⟩]; unfold Tk.rest; rw [if_neg (fun h => by omega), if_neg (by rw [hR1]; decide), if_pos hc])
 have hn : Now w (w.alloc (.cells #[.int .i64 0, .string ⟨#[]⟩, .int .i64 0] 36)) := Now.refl w
 have hcell := hp k hk
 have HP := Lib.hid hp
 have CA : Hid (∀ wr, Now w wr -> AtIs l b off cap wr) := Lib.hid fun wr h => (at_is l b off cap wr (by omega) (h.on hb HP.out)).out
 have CE : Hid (∀ wr, Now w wr -> EscIs l b off cap wr) := Lib.hid fun wr h => (esc_is l b off cap wr (by omega) (h.on hb HP.out)).out
 have CB : Hid (∀ wr, Now w wr -> BegsIs l b off cap wr) := Lib.hid fun wr h => (begs_is l b off cap wr (by omega) (h.on hb HP.out)).out
 have CN : Hid (∀ wr, Now w wr -> ∀ (x : Int) (j : Nat), x = j -> j <= l.length -> Calls Try.prog 97 #[.slice (some ⟨b, off, none⟩) l.length cap, .int .i64 x] wr (Named l j wr)) := Lib.hid fun wr h x j hx hj => tname_any l x j hx b off cap wr (by omega) hj (h.lt hb) (h.on hb HP.out)
 have CS := Lib.hid (tascii_any l k b off cap (w.alloc (.cells #[.int .i64 0, .string ⟨#[]⟩, .int .i64 0] 36)) (by omega) (by omega) hN (hn.lt hb) (hn.on hb hp))
 have CL : Hid (∀ wr, Calls Try.prog 99 #[.string (strOfNums (Tk.ascL l k))] wr fun e w' => e = .returned (.int .i64 (Tk.nlen l k : Nat)) /\ wr = w') := rlength_is _ (by have := Tk.ascL_len l k; rw [strOfNums_size]; omega)
 clear hp hN
 have hR2 : True = True := rfl
 have hR3 : True = True := rfl
 rw [hc] at hcell
 rw [HD.out]
 go_enter Try.func79, Try.ntmps79
 go_wp2_with (first | (go_at_call 101; have X := CB.out _ hn _ k rfl (by omega); (with_reducible refine X.mono ?_); clear X; rintro e w' ⟨he, rfl⟩; (first | rw [hR1] at he | rw [hR2] at he | rw [hR3] at he | skip); subst he))
 refine bodyPost_ret (v := .tuple #[tokV (14) (⟨#[]⟩) (0), .int .i64 ((k : Int) + 1)]) (by simp [results, tokV, Try.results79, go_sem]) rfl (nexted0 rfl (by omega) _)
theorem tnext_semi (l : List Int) (k : Nat) (b off cap : Nat) (w : World) (hm : l.length <= 65000) (hk : k < l.length) (hN : ∀ c ∈ l, 0 <= c) (hb : b < w.heap.size) (hp : On w l b off) (hc : Ru.g l k = 59) :
 Calls Try.prog 79 #[.slice (some ⟨b, off, none⟩) l.length cap, .int .i64 k] w (Nexted (Tk.nxt l k) w) := by
 have hR1 : Tk.begs l k = false := Tk.begs_not hk (by omega)
 have HD := Lib.hid (show Tk.nxt l k = (15, ⟨#[]⟩, 0, k + 1) by rw [Tk.nxt_past ⟨by omega, by omega, fun h => by omega, fun h => by rw [hc] at h; exact absurd h (by decide)⟩]; unfold Tk.rest; rw [if_neg (fun h => by omega), if_neg (by rw [hR1]; decide), if_neg (by omega), if_pos hc])
 have hn : Now w (w.alloc (.cells #[.int .i64 0, .string ⟨#[]⟩, .int .i64 0] 36)) := Now.refl w
 have hcell := hp k hk
 have HP := Lib.hid hp
 have CA : Hid (∀ wr, Now w wr -> AtIs l b off cap wr) := Lib.hid fun wr h => (at_is l b off cap wr (by omega) (h.on hb HP.out)).out
 have CE : Hid (∀ wr, Now w wr -> EscIs l b off cap wr) := Lib.hid fun wr h => (esc_is l b off cap wr (by omega) (h.on hb HP.out)).out
 have CB : Hid (∀ wr, Now w wr -> BegsIs l b off cap wr) := Lib.hid fun wr h => (begs_is l b off cap wr (by omega) (h.on hb HP.out)).out
 have CN : Hid (∀ wr, Now w wr -> ∀ (x : Int) (j : Nat), x = j -> j <= l.length -> Calls Try.prog 97 #[.slice (some ⟨b, off, none⟩) l.length cap, .int .i64 x] wr (Named l j wr)) := Lib.hid fun wr h x j hx hj => tname_any l x j hx b off cap wr (by omega) hj (h.lt hb) (h.on hb HP.out)
 have CS := Lib.hid (tascii_any l k b off cap (w.alloc (.cells #[.int .i64 0, .string ⟨#[]⟩, .int .i64 0] 36)) (by omega) (by omega) hN (hn.lt hb) (hn.on hb hp))
 have CL : Hid (∀ wr, Calls Try.prog 99 #[.string (strOfNums (Tk.ascL l k))] wr fun e w' => e = .returned (.int .i64 (Tk.nlen l k : Nat)) /\ wr = w') := rlength_is _ (by have := Tk.ascL_len l k; rw [strOfNums_size]; omega)
 clear hp hN
 have hR2 : True = True := rfl
 have hR3 : True = True := rfl
 rw [hc] at hcell
 rw [HD.out]
 go_enter Try.func79, Try.ntmps79
 go_wp2_with (first | (go_at_call 101; have X := CB.out _ hn _ k rfl (by omega); (with_reducible refine X.mono ?_); clear X; rintro e w' ⟨he, rfl⟩; (first | rw [hR1] at he | rw [hR2] at he | rw [hR3] at he | skip); subst he))
 refine bodyPost_ret (v := .tuple #[tokV (15) (⟨#[]⟩) (0), .int .i64 ((k : Int) + 1)]) (by simp [results, tokV, Try.results79, go_sem]) rfl (nexted0 rfl (by omega) _)
theorem tnext_comma (l : List Int) (k : Nat) (b off cap : Nat) (w : World) (hm : l.length <= 65000) (hk : k < l.length) (hN : ∀ c ∈ l, 0 <= c) (hb : b < w.heap.size) (hp : On w l b off) (hc : Ru.g l k = 44) :
 Calls Try.prog 79 #[.slice (some ⟨b, off, none⟩) l.length cap, .int .i64 k] w (Nexted (Tk.nxt l k) w) := by
 have hR1 : Tk.begs l k = false := Tk.begs_not hk (by omega)
 have HD := Lib.hid (show Tk.nxt l k = (16, ⟨#[]⟩, 0, k + 1) by rw [Tk.nxt_past ⟨by omega, by omega, fun h => by omega, fun h => by rw [hc] at h; exact absurd h (by decide)⟩]; unfold Tk.rest; rw [if_neg (fun h => by omega), if_neg (by rw [hR1]; decide), if_neg (by omega), if_neg (by omega), if_pos hc])
 have hn : Now w (w.alloc (.cells #[.int .i64 0, .string ⟨#[]⟩, .int .i64 0] 36)) := Now.refl w
 have hcell := hp k hk
 have HP := Lib.hid hp
 have CA : Hid (∀ wr, Now w wr -> AtIs l b off cap wr) := Lib.hid fun wr h => (at_is l b off cap wr (by omega) (h.on hb HP.out)).out
 have CE : Hid (∀ wr, Now w wr -> EscIs l b off cap wr) := Lib.hid fun wr h => (esc_is l b off cap wr (by omega) (h.on hb HP.out)).out
 have CB : Hid (∀ wr, Now w wr -> BegsIs l b off cap wr) := Lib.hid fun wr h => (begs_is l b off cap wr (by omega) (h.on hb HP.out)).out
 have CN : Hid (∀ wr, Now w wr -> ∀ (x : Int) (j : Nat), x = j -> j <= l.length -> Calls Try.prog 97 #[.slice (some ⟨b, off, none⟩) l.length cap, .int .i64 x] wr (Named l j wr)) := Lib.hid fun wr h x j hx hj => tname_any l x j hx b off cap wr (by omega) hj (h.lt hb) (h.on hb HP.out)
 have CS := Lib.hid (tascii_any l k b off cap (w.alloc (.cells #[.int .i64 0, .string ⟨#[]⟩, .int .i64 0] 36)) (by omega) (by omega) hN (hn.lt hb) (hn.on hb hp))
 have CL : Hid (∀ wr, Calls Try.prog 99 #[.string (strOfNums (Tk.ascL l k))] wr fun e w' => e = .returned (.int .i64 (Tk.nlen l k : Nat)) /\ wr = w') := rlength_is _ (by have := Tk.ascL_len l k; rw [strOfNums_size]; omega)
 clear hp hN
 have hR2 : True = True := rfl
 have hR3 : True = True := rfl
 rw [hc] at hcell
 rw [HD.out]
 go_enter Try.func79, Try.ntmps79
 go_wp2_with (first | (go_at_call 101; have X := CB.out _ hn _ k rfl (by omega); (with_reducible refine X.mono ?_); clear X; rintro e w' ⟨he, rfl⟩; (first | rw [hR1] at he | rw [hR2] at he | rw [hR3] at he | skip); subst he))
 refine bodyPost_ret (v := .tuple #[tokV (16) (⟨#[]⟩) (0), .int .i64 ((k : Int) + 1)]) (by simp [results, tokV, Try.results79, go_sem]) rfl (nexted0 rfl (by omega) _)
theorem tnext_sym (l : List Int) (k : Nat) (b off cap : Nat) (w : World) (hm : l.length <= 65000) (hk : k < l.length) (hN : ∀ c ∈ l, 0 <= c) (hb : b < w.heap.size) (hp : On w l b off) (hpast : Tk.Past l k) (hR1 : Tk.begs l k = false) (hc64 : Ru.g l k = 64 -> Tk.begs l (k + 1) = false) (h58 : Ru.g l k ≠ 58) (h59 : Ru.g l k ≠ 59) (h44 : Ru.g l k ≠ 44) :
 Calls Try.prog 79 #[.slice (some ⟨b, off, none⟩) l.length cap, .int .i64 k] w (Nexted (Tk.nxt l k) w) := by
 have HD := Lib.hid (show Tk.nxt l k = (Tk.symK (Ru.g l k), Tk.str [Ru.g l k], 0, k + 1) by rw [Tk.nxt_past hpast]; unfold Tk.rest; rw [if_neg (fun h => by have := hc64 h.1; rw [this] at h; exact absurd h.2 (by decide)), if_neg (by rw [hR1]; decide), if_neg h58, if_neg h59, if_neg h44])
 have hn : Now w (w.alloc (.cells #[.int .i64 0, .string ⟨#[]⟩, .int .i64 0] 36)) := Now.refl w
 have hcell := hp k hk
 have HP := Lib.hid hp
 have CA : Hid (∀ wr, Now w wr -> AtIs l b off cap wr) := Lib.hid fun wr h => (at_is l b off cap wr (by omega) (h.on hb HP.out)).out
 have CE : Hid (∀ wr, Now w wr -> EscIs l b off cap wr) := Lib.hid fun wr h => (esc_is l b off cap wr (by omega) (h.on hb HP.out)).out
 have CB : Hid (∀ wr, Now w wr -> BegsIs l b off cap wr) := Lib.hid fun wr h => (begs_is l b off cap wr (by omega) (h.on hb HP.out)).out
 have CN : Hid (∀ wr, Now w wr -> ∀ (x : Int) (j : Nat), x = j -> j <= l.length -> Calls Try.prog 97 #[.slice (some ⟨b, off, none⟩) l.length cap, .int .i64 x] wr (Named l j wr)) := Lib.hid fun wr h x j hx hj => tname_any l x j hx b off cap wr (by omega) hj (h.lt hb) (h.on hb HP.out)
 have CS := Lib.hid (tascii_any l k b off cap (w.alloc (.cells #[.int .i64 0, .string ⟨#[]⟩, .int .i64 0] 36)) (by omega) (by omega) hN (hn.lt hb) (hn.on hb hp))
 have CL : Hid (∀ wr, Calls Try.prog 99 #[.string (strOfNums (Tk.ascL l k))] wr fun e w' => e = .returned (.int .i64 (Tk.nlen l k : Nat)) /\ wr = w') := rlength_is _ (by have := Tk.ascL_len l k; rw [strOfNums_size]; omega)
 clear hp hN
 have CX : Hid (∀ (wr : World) (B : Nat), B = wr.heap.size -> Calls Try.prog 102 #[.slice (some ⟨B, 0, none⟩) 1 1] (wr.alloc (.cells #[.int .i64 (Ru.g l k)] 3)) fun e w' => e = .returned (.string (Tk.str [Ru.g l k])) /\ Below wr.heap.size wr w') := Lib.hid fun wr B hB => by
  subst hB
  refine (ttext_any [Ru.g l k] (some ⟨wr.heap.size, 0, none⟩) 1 (wr.alloc (.cells #[.int .i64 (Ru.g l k)] 3)) (by simp) (by simp) ?_).mono ?_
  ·intro _
   refine ⟨wr.heap.size, 0, rfl, by simp, ?_⟩
   intro j hj
   match j, hj with
   | 0, _ => exact one_cell wr (.int .i64 (Ru.g l k)) 0 _ rfl
  ·rintro e w' ⟨he, hb'⟩
   exact ⟨he, ((Below.refl _ wr).alloc (Nat.le_refl _) _).trans (hb'.mono (by simp))⟩
 obtain ⟨h34, h39, h35, hnum⟩ := hpast
 rw [HD.out]
 clear HD
 generalize Ru.g l k = c at *
 cases hnb : Tk.numB c
 ·obtain ⟨n1, n2, n3, n4⟩ := Tk.numB_no hnb
  by_cases h64 : c = 64
  ·have hR2 := hc64 h64
   have hR3 : True = True := rfl
   clear hc64 hnum hnb h35
   subst h64
   go_enter Try.func79, Try.ntmps79
   go_wp2_with (first | (go_at_call 93; have X := CA.out _ hn _ _ (cast1 k); (with_reducible refine X.mono ?_); clear X; rintro e w' ⟨he, rfl⟩; (first | rw [hR1] at he | rw [hR2] at he | rw [hR3] at he | skip); subst he) | (go_at_call 95; have X := rwithin_any (Tk.at' l (k + 1)) (w.alloc (.cells #[.int .i64 0, .string ⟨#[]⟩, .int .i64 0] 36)); (with_reducible refine X.mono ?_); clear X; rintro e w' ⟨he, rfl⟩; (first | rw [hR1] at he | rw [hR2] at he | rw [hR3] at he | skip); subst he) | (go_at_call 96; have X := CE.out _ hn _ _ (cast1 k) (by omega); (with_reducible refine X.mono ?_); clear X; rintro e w' ⟨he, rfl⟩; (first | rw [hR1] at he | rw [hR2] at he | rw [hR3] at he | skip); subst he) | (go_at_call 101; have X := CB.out _ hn _ k rfl (by omega); (with_reducible refine X.mono ?_); clear X; rintro e w' ⟨he, rfl⟩; (first | rw [hR1] at he | rw [hR2] at he | rw [hR3] at he | skip); subst he) | (go_at_call 101; have X := CB.out _ hn _ _ (cast1 k) (by omega); (with_reducible refine X.mono ?_); clear X; rintro e w' ⟨he, rfl⟩; (first | rw [hR1] at he | rw [hR2] at he | rw [hR3] at he | skip); subst he) | (go_at_call 98; have X := CS.out; (with_reducible refine X.mono ?_); clear X; rintro e w1 ⟨he, b1⟩; (first | rw [hR1] at he | rw [hR2] at he | rw [hR3] at he | skip); subst he; have hn1 := hn.next b1) | (go_at_call 99; have X := CL.out w1; (with_reducible refine X.mono ?_); clear X; rintro e w' ⟨he, rfl⟩; (first | rw [hR1] at he | rw [hR2] at he | rw [hR3] at he | skip); subst he) | (go_at_call 101; have X := CB.out _ hn1 _ k rfl (by omega); (with_reducible refine X.mono ?_); clear X; rintro e w' ⟨he, rfl⟩; (first | rw [hR1] at he | rw [hR2] at he | rw [hR3] at he | skip); subst he) | (go_at_call 102; have X := CX.out (w.alloc (.cells #[.int .i64 0, .string ⟨#[]⟩, .int .i64 0] 36)) (w.heap.size + 1) (by simp); (with_reducible refine X.mono ?_); clear X; rintro e w2 ⟨he, b2⟩; (first | rw [hR1] at he | rw [hR2] at he | rw [hR3] at he | skip); subst he; have hb2 := hn.next b2; obtain ⟨z0, z1, z2, f0, f1, f2⟩ := tok_cells hb2) | (go_at_call 102; have X := CX.out w1 w1.heap.size rfl; (with_reducible refine X.mono ?_); clear X; rintro e w2 ⟨he, b2⟩; (first | rw [hR1] at he | rw [hR2] at he | rw [hR3] at he | skip); subst he; have hb2 := hn1.next b2; obtain ⟨z0, z1, z2, f0, f1, f2⟩ := tok_cells hb2))
   refine bodyPost_ret (v := .tuple #[tokV (11) (Tk.str [64]) (0), .int .i64 ((k : Int) + 1)]) (by simp [results, tokV, Try.results79, go_sem, z0, z1, z2]) rfl (nexted rfl (by omega) hb2 _ _ _)
  ·by_cases hc35 : c = 35
   ·obtain ⟨hR2, hR3⟩ := h35 hc35
    clear hc64 hnum hnb h35
    subst hc35
    go_enter Try.func79, Try.ntmps79
    go_wp2_with (first | (go_at_call 93; have X := CA.out _ hn _ _ (cast1 k); (with_reducible refine X.mono ?_); clear X; rintro e w' ⟨he, rfl⟩; (first | rw [hR1] at he | rw [hR2] at he | rw [hR3] at he | skip); subst he) | (go_at_call 95; have X := rwithin_any (Tk.at' l (k + 1)) (w.alloc (.cells #[.int .i64 0, .string ⟨#[]⟩, .int .i64 0] 36)); (with_reducible refine X.mono ?_); clear X; rintro e w' ⟨he, rfl⟩; (first | rw [hR1] at he | rw [hR2] at he | rw [hR3] at he | skip); subst he) | (go_at_call 96; have X := CE.out _ hn _ _ (cast1 k) (by omega); (with_reducible refine X.mono ?_); clear X; rintro e w' ⟨he, rfl⟩; (first | rw [hR1] at he | rw [hR2] at he | rw [hR3] at he | skip); subst he) | (go_at_call 101; have X := CB.out _ hn _ k rfl (by omega); (with_reducible refine X.mono ?_); clear X; rintro e w' ⟨he, rfl⟩; (first | rw [hR1] at he | rw [hR2] at he | rw [hR3] at he | skip); subst he) | (go_at_call 101; have X := CB.out _ hn _ _ (cast1 k) (by omega); (with_reducible refine X.mono ?_); clear X; rintro e w' ⟨he, rfl⟩; (first | rw [hR1] at he | rw [hR2] at he | rw [hR3] at he | skip); subst he) | (go_at_call 98; have X := CS.out; (with_reducible refine X.mono ?_); clear X; rintro e w1 ⟨he, b1⟩; (first | rw [hR1] at he | rw [hR2] at he | rw [hR3] at he | skip); subst he; have hn1 := hn.next b1) | (go_at_call 99; have X := CL.out w1; (with_reducible refine X.mono ?_); clear X; rintro e w' ⟨he, rfl⟩; (first | rw [hR1] at he | rw [hR2] at he | rw [hR3] at he | skip); subst he) | (go_at_call 101; have X := CB.out _ hn1 _ k rfl (by omega); (with_reducible refine X.mono ?_); clear X; rintro e w' ⟨he, rfl⟩; (first | rw [hR1] at he | rw [hR2] at he | rw [hR3] at he | skip); subst he) | (go_at_call 102; have X := CX.out (w.alloc (.cells #[.int .i64 0, .string ⟨#[]⟩, .int .i64 0] 36)) (w.heap.size + 1) (by simp); (with_reducible refine X.mono ?_); clear X; rintro e w2 ⟨he, b2⟩; (first | rw [hR1] at he | rw [hR2] at he | rw [hR3] at he | skip); subst he; have hb2 := hn.next b2; obtain ⟨z0, z1, z2, f0, f1, f2⟩ := tok_cells hb2) | (go_at_call 102; have X := CX.out w1 w1.heap.size rfl; (with_reducible refine X.mono ?_); clear X; rintro e w2 ⟨he, b2⟩; (first | rw [hR1] at he | rw [hR2] at he | rw [hR3] at he | skip); subst he; have hb2 := hn1.next b2; obtain ⟨z0, z1, z2, f0, f1, f2⟩ := tok_cells hb2))
    refine bodyPost_ret (v := .tuple #[tokV (11) (Tk.str [35]) (0), .int .i64 ((k : Int) + 1)]) (by simp [results, tokV, Try.results79, go_sem, z0, z1, z2]) rfl (nexted rfl (by omega) hb2 _ _ _)
   ·have hR2 : True = True := rfl
    have hR3 : True = True := rfl
    clear hc64 hnum hnb h35
    by_cases ho : c = 40 ∨ c = 91 ∨ c = 123
    ·have hs : Tk.symK c = 12 := by unfold Tk.symK; rw [if_pos ho]
     rw [hs]
     clear hs
     rcases ho with rfl | rfl | rfl
     all_goals
      go_enter Try.func79, Try.ntmps79
      go_wp2_with (first | (go_at_call 93; have X := CA.out _ hn _ _ (cast1 k); (with_reducible refine X.mono ?_); clear X; rintro e w' ⟨he, rfl⟩; (first | rw [hR1] at he | rw [hR2] at he | rw [hR3] at he | skip); subst he) | (go_at_call 95; have X := rwithin_any (Tk.at' l (k + 1)) (w.alloc (.cells #[.int .i64 0, .string ⟨#[]⟩, .int .i64 0] 36)); (with_reducible refine X.mono ?_); clear X; rintro e w' ⟨he, rfl⟩; (first | rw [hR1] at he | rw [hR2] at he | rw [hR3] at he | skip); subst he) | (go_at_call 96; have X := CE.out _ hn _ _ (cast1 k) (by omega); (with_reducible refine X.mono ?_); clear X; rintro e w' ⟨he, rfl⟩; (first | rw [hR1] at he | rw [hR2] at he | rw [hR3] at he | skip); subst he) | (go_at_call 101; have X := CB.out _ hn _ k rfl (by omega); (with_reducible refine X.mono ?_); clear X; rintro e w' ⟨he, rfl⟩; (first | rw [hR1] at he | rw [hR2] at he | rw [hR3] at he | skip); subst he) | (go_at_call 101; have X := CB.out _ hn _ _ (cast1 k) (by omega); (with_reducible refine X.mono ?_); clear X; rintro e w' ⟨he, rfl⟩; (first | rw [hR1] at he | rw [hR2] at he | rw [hR3] at he | skip); subst he) | (go_at_call 98; have X := CS.out; (with_reducible refine X.mono ?_); clear X; rintro e w1 ⟨he, b1⟩; (first | rw [hR1] at he | rw [hR2] at he | rw [hR3] at he | skip); subst he; have hn1 := hn.next b1) | (go_at_call 99; have X := CL.out w1; (with_reducible refine X.mono ?_); clear X; rintro e w' ⟨he, rfl⟩; (first | rw [hR1] at he | rw [hR2] at he | rw [hR3] at he | skip); subst he) | (go_at_call 101; have X := CB.out _ hn1 _ k rfl (by omega); (with_reducible refine X.mono ?_); clear X; rintro e w' ⟨he, rfl⟩; (first | rw [hR1] at he | rw [hR2] at he | rw [hR3] at he | skip); subst he) | (go_at_call 102; have X := CX.out (w.alloc (.cells #[.int .i64 0, .string ⟨#[]⟩, .int .i64 0] 36)) (w.heap.size + 1) (by simp); (with_reducible refine X.mono ?_); clear X; rintro e w2 ⟨he, b2⟩; (first | rw [hR1] at he | rw [hR2] at he | rw [hR3] at he | skip); subst he; have hb2 := hn.next b2; obtain ⟨z0, z1, z2, f0, f1, f2⟩ := tok_cells hb2) | (go_at_call 102; have X := CX.out w1 w1.heap.size rfl; (with_reducible refine X.mono ?_); clear X; rintro e w2 ⟨he, b2⟩; (first | rw [hR1] at he | rw [hR2] at he | rw [hR3] at he | skip); subst he; have hb2 := hn1.next b2; obtain ⟨z0, z1, z2, f0, f1, f2⟩ := tok_cells hb2))
      refine bodyPost_ret (v := .tuple #[tokV (12) (Tk.str [_]) (0), .int .i64 ((k : Int) + 1)]) (by simp [results, tokV, Try.results79, go_sem, z0, z1, z2]) rfl (nexted rfl (by omega) hb2 _ _ _)
    ·by_cases hcl : c = 41 ∨ c = 93 ∨ c = 125
     ·have hs : Tk.symK c = 13 := by unfold Tk.symK; rw [if_neg ho, if_pos hcl]
      rw [hs]
      clear hs ho
      rcases hcl with rfl | rfl | rfl
      all_goals
       go_enter Try.func79, Try.ntmps79
       go_wp2_with (first | (go_at_call 93; have X := CA.out _ hn _ _ (cast1 k); (with_reducible refine X.mono ?_); clear X; rintro e w' ⟨he, rfl⟩; (first | rw [hR1] at he | rw [hR2] at he | rw [hR3] at he | skip); subst he) | (go_at_call 95; have X := rwithin_any (Tk.at' l (k + 1)) (w.alloc (.cells #[.int .i64 0, .string ⟨#[]⟩, .int .i64 0] 36)); (with_reducible refine X.mono ?_); clear X; rintro e w' ⟨he, rfl⟩; (first | rw [hR1] at he | rw [hR2] at he | rw [hR3] at he | skip); subst he) | (go_at_call 96; have X := CE.out _ hn _ _ (cast1 k) (by omega); (with_reducible refine X.mono ?_); clear X; rintro e w' ⟨he, rfl⟩; (first | rw [hR1] at he | rw [hR2] at he | rw [hR3] at he | skip); subst he) | (go_at_call 101; have X := CB.out _ hn _ k rfl (by omega); (with_reducible refine X.mono ?_); clear X; rintro e w' ⟨he, rfl⟩; (first | rw [hR1] at he | rw [hR2] at he | rw [hR3] at he | skip); subst he) | (go_at_call 101; have X := CB.out _ hn _ _ (cast1 k) (by omega); (with_reducible refine X.mono ?_); clear X; rintro e w' ⟨he, rfl⟩; (first | rw [hR1] at he | rw [hR2] at he | rw [hR3] at he | skip); subst he) | (go_at_call 98; have X := CS.out; (with_reducible refine X.mono ?_); clear X; rintro e w1 ⟨he, b1⟩; (first | rw [hR1] at he | rw [hR2] at he | rw [hR3] at he | skip); subst he; have hn1 := hn.next b1) | (go_at_call 99; have X := CL.out w1; (with_reducible refine X.mono ?_); clear X; rintro e w' ⟨he, rfl⟩; (first | rw [hR1] at he | rw [hR2] at he | rw [hR3] at he | skip); subst he) | (go_at_call 101; have X := CB.out _ hn1 _ k rfl (by omega); (with_reducible refine X.mono ?_); clear X; rintro e w' ⟨he, rfl⟩; (first | rw [hR1] at he | rw [hR2] at he | rw [hR3] at he | skip); subst he) | (go_at_call 102; have X := CX.out (w.alloc (.cells #[.int .i64 0, .string ⟨#[]⟩, .int .i64 0] 36)) (w.heap.size + 1) (by simp); (with_reducible refine X.mono ?_); clear X; rintro e w2 ⟨he, b2⟩; (first | rw [hR1] at he | rw [hR2] at he | rw [hR3] at he | skip); subst he; have hb2 := hn.next b2; obtain ⟨z0, z1, z2, f0, f1, f2⟩ := tok_cells hb2) | (go_at_call 102; have X := CX.out w1 w1.heap.size rfl; (with_reducible refine X.mono ?_); clear X; rintro e w2 ⟨he, b2⟩; (first | rw [hR1] at he | rw [hR2] at he | rw [hR3] at he | skip); subst he; have hb2 := hn1.next b2; obtain ⟨z0, z1, z2, f0, f1, f2⟩ := tok_cells hb2))
       refine bodyPost_ret (v := .tuple #[tokV (13) (Tk.str [_]) (0), .int .i64 ((k : Int) + 1)]) (by simp [results, tokV, Try.results79, go_sem, z0, z1, z2]) rfl (nexted rfl (by omega) hb2 _ _ _)
     ·have hs : Tk.symK c = 11 := by unfold Tk.symK; rw [if_neg ho, if_neg hcl]
      rw [hs]
      clear hs
      have o1 : c ≠ 40 := by omega
      have o2 : c ≠ 91 := by omega
      have o3 : c ≠ 123 := by omega
      have o4 : c ≠ 41 := by omega
      have o5 : c ≠ 93 := by omega
      have o6 : c ≠ 125 := by omega
      clear ho hcl
      have e34 : (c == 34) = false := beq_false_of_ne (by omega)
      have e39 : (c == 39) = false := beq_false_of_ne (by omega)
      have e35 : (c == 35) = false := beq_false_of_ne (by omega)
      have e43 : (c == 43) = false := beq_false_of_ne (by omega)
      have e45 : (c == 45) = false := beq_false_of_ne (by omega)
      have e46 : (c == 46) = false := beq_false_of_ne (by omega)
      have e64 : (c == 64) = false := beq_false_of_ne (by omega)
      have e58 : (c == 58) = false := beq_false_of_ne (by omega)
      have e59 : (c == 59) = false := beq_false_of_ne (by omega)
      have e44 : (c == 44) = false := beq_false_of_ne (by omega)
      have e40 : (c == 40) = false := beq_false_of_ne (by omega)
      have e91 : (c == 91) = false := beq_false_of_ne (by omega)
      have e123 : (c == 123) = false := beq_false_of_ne (by omega)
      have e41 : (c == 41) = false := beq_false_of_ne (by omega)
      have e93 : (c == 93) = false := beq_false_of_ne (by omega)
      have e125 : (c == 125) = false := beq_false_of_ne (by omega)
      rcases n4 with n4 | n4
      all_goals
       go_enter Try.func79, Try.ntmps79
       go_wp2_with (first | (go_at_call 93; have X := CA.out _ hn _ _ (cast1 k); (with_reducible refine X.mono ?_); clear X; rintro e w' ⟨he, rfl⟩; (first | rw [hR1] at he | rw [hR2] at he | rw [hR3] at he | skip); subst he) | (go_at_call 95; have X := rwithin_any (Tk.at' l (k + 1)) (w.alloc (.cells #[.int .i64 0, .string ⟨#[]⟩, .int .i64 0] 36)); (with_reducible refine X.mono ?_); clear X; rintro e w' ⟨he, rfl⟩; (first | rw [hR1] at he | rw [hR2] at he | rw [hR3] at he | skip); subst he) | (go_at_call 96; have X := CE.out _ hn _ _ (cast1 k) (by omega); (with_reducible refine X.mono ?_); clear X; rintro e w' ⟨he, rfl⟩; (first | rw [hR1] at he | rw [hR2] at he | rw [hR3] at he | skip); subst he) | (go_at_call 101; have X := CB.out _ hn _ k rfl (by omega); (with_reducible refine X.mono ?_); clear X; rintro e w' ⟨he, rfl⟩; (first | rw [hR1] at he | rw [hR2] at he | rw [hR3] at he | skip); subst he) | (go_at_call 101; have X := CB.out _ hn _ _ (cast1 k) (by omega); (with_reducible refine X.mono ?_); clear X; rintro e w' ⟨he, rfl⟩; (first | rw [hR1] at he | rw [hR2] at he | rw [hR3] at he | skip); subst he) | (go_at_call 98; have X := CS.out; (with_reducible refine X.mono ?_); clear X; rintro e w1 ⟨he, b1⟩; (first | rw [hR1] at he | rw [hR2] at he | rw [hR3] at he | skip); subst he; have hn1 := hn.next b1) | (go_at_call 99; have X := CL.out w1; (with_reducible refine X.mono ?_); clear X; rintro e w' ⟨he, rfl⟩; (first | rw [hR1] at he | rw [hR2] at he | rw [hR3] at he | skip); subst he) | (go_at_call 101; have X := CB.out _ hn1 _ k rfl (by omega); (with_reducible refine X.mono ?_); clear X; rintro e w' ⟨he, rfl⟩; (first | rw [hR1] at he | rw [hR2] at he | rw [hR3] at he | skip); subst he) | (go_at_call 102; have X := CX.out (w.alloc (.cells #[.int .i64 0, .string ⟨#[]⟩, .int .i64 0] 36)) (w.heap.size + 1) (by simp); (with_reducible refine X.mono ?_); clear X; rintro e w2 ⟨he, b2⟩; (first | rw [hR1] at he | rw [hR2] at he | rw [hR3] at he | skip); subst he; have hb2 := hn.next b2; obtain ⟨z0, z1, z2, f0, f1, f2⟩ := tok_cells hb2) | (go_at_call 102; have X := CX.out w1 w1.heap.size rfl; (with_reducible refine X.mono ?_); clear X; rintro e w2 ⟨he, b2⟩; (first | rw [hR1] at he | rw [hR2] at he | rw [hR3] at he | skip); subst he; have hb2 := hn1.next b2; obtain ⟨z0, z1, z2, f0, f1, f2⟩ := tok_cells hb2))
       refine bodyPost_ret (v := .tuple #[tokV (11) (Tk.str [c]) (0), .int .i64 ((k : Int) + 1)]) (by simp [results, tokV, Try.results79, go_sem, z0, z1, z2]) rfl (nexted rfl (by omega) hb2 _ _ _)
 ·have hR2 := hnum hnb
  have hR3 : True = True := rfl
  have hcs := of_decide_eq_true hnb
  have hs : Tk.symK c = 11 := by unfold Tk.symK; rw [if_neg (by omega), if_neg (by omega)]
  rw [hs]
  clear hs hc64 hnum hnb h35
  rcases hcs with rfl | rfl | rfl | hcs
  ·skip
   go_enter Try.func79, Try.ntmps79
   go_wp2_with (first | (go_at_call 93; have X := CA.out _ hn _ _ (cast1 k); (with_reducible refine X.mono ?_); clear X; rintro e w' ⟨he, rfl⟩; (first | rw [hR1] at he | rw [hR2] at he | rw [hR3] at he | skip); subst he) | (go_at_call 95; have X := rwithin_any (Tk.at' l (k + 1)) (w.alloc (.cells #[.int .i64 0, .string ⟨#[]⟩, .int .i64 0] 36)); (with_reducible refine X.mono ?_); clear X; rintro e w' ⟨he, rfl⟩; (first | rw [hR1] at he | rw [hR2] at he | rw [hR3] at he | skip); subst he) | (go_at_call 96; have X := CE.out _ hn _ _ (cast1 k) (by omega); (with_reducible refine X.mono ?_); clear X; rintro e w' ⟨he, rfl⟩; (first | rw [hR1] at he | rw [hR2] at he | rw [hR3] at he | skip); subst he) | (go_at_call 101; have X := CB.out _ hn _ k rfl (by omega); (with_reducible refine X.mono ?_); clear X; rintro e w' ⟨he, rfl⟩; (first | rw [hR1] at he | rw [hR2] at he | rw [hR3] at he | skip); subst he) | (go_at_call 101; have X := CB.out _ hn _ _ (cast1 k) (by omega); (with_reducible refine X.mono ?_); clear X; rintro e w' ⟨he, rfl⟩; (first | rw [hR1] at he | rw [hR2] at he | rw [hR3] at he | skip); subst he) | (go_at_call 98; have X := CS.out; (with_reducible refine X.mono ?_); clear X; rintro e w1 ⟨he, b1⟩; (first | rw [hR1] at he | rw [hR2] at he | rw [hR3] at he | skip); subst he; have hn1 := hn.next b1) | (go_at_call 99; have X := CL.out w1; (with_reducible refine X.mono ?_); clear X; rintro e w' ⟨he, rfl⟩; (first | rw [hR1] at he | rw [hR2] at he | rw [hR3] at he | skip); subst he) | (go_at_call 101; have X := CB.out _ hn1 _ k rfl (by omega); (with_reducible refine X.mono ?_); clear X; rintro e w' ⟨he, rfl⟩; (first | rw [hR1] at he | rw [hR2] at he | rw [hR3] at he | skip); subst he) | (go_at_call 102; have X := CX.out (w.alloc (.cells #[.int .i64 0, .string ⟨#[]⟩, .int .i64 0] 36)) (w.heap.size + 1) (by simp); (with_reducible refine X.mono ?_); clear X; rintro e w2 ⟨he, b2⟩; (first | rw [hR1] at he | rw [hR2] at he | rw [hR3] at he | skip); subst he; have hb2 := hn.next b2; obtain ⟨z0, z1, z2, f0, f1, f2⟩ := tok_cells hb2) | (go_at_call 102; have X := CX.out w1 w1.heap.size rfl; (with_reducible refine X.mono ?_); clear X; rintro e w2 ⟨he, b2⟩; (first | rw [hR1] at he | rw [hR2] at he | rw [hR3] at he | skip); subst he; have hb2 := hn1.next b2; obtain ⟨z0, z1, z2, f0, f1, f2⟩ := tok_cells hb2))
   refine bodyPost_ret (v := .tuple #[tokV (11) (Tk.str [43]) (0), .int .i64 ((k : Int) + 1)]) (by simp [results, tokV, Try.results79, go_sem, z0, z1, z2]) rfl (nexted rfl (by omega) hb2 _ _ _)
  ·skip
   go_enter Try.func79, Try.ntmps79
   go_wp2_with (first | (go_at_call 93; have X := CA.out _ hn _ _ (cast1 k); (with_reducible refine X.mono ?_); clear X; rintro e w' ⟨he, rfl⟩; (first | rw [hR1] at he | rw [hR2] at he | rw [hR3] at he | skip); subst he) | (go_at_call 95; have X := rwithin_any (Tk.at' l (k + 1)) (w.alloc (.cells #[.int .i64 0, .string ⟨#[]⟩, .int .i64 0] 36)); (with_reducible refine X.mono ?_); clear X; rintro e w' ⟨he, rfl⟩; (first | rw [hR1] at he | rw [hR2] at he | rw [hR3] at he | skip); subst he) | (go_at_call 96; have X := CE.out _ hn _ _ (cast1 k) (by omega); (with_reducible refine X.mono ?_); clear X; rintro e w' ⟨he, rfl⟩; (first | rw [hR1] at he | rw [hR2] at he | rw [hR3] at he | skip); subst he) | (go_at_call 101; have X := CB.out _ hn _ k rfl (by omega); (with_reducible refine X.mono ?_); clear X; rintro e w' ⟨he, rfl⟩; (first | rw [hR1] at he | rw [hR2] at he | rw [hR3] at he | skip); subst he) | (go_at_call 101; have X := CB.out _ hn _ _ (cast1 k) (by omega); (with_reducible refine X.mono ?_); clear X; rintro e w' ⟨he, rfl⟩; (first | rw [hR1] at he | rw [hR2] at he | rw [hR3] at he | skip); subst he) | (go_at_call 98; have X := CS.out; (with_reducible refine X.mono ?_); clear X; rintro e w1 ⟨he, b1⟩; (first | rw [hR1] at he | rw [hR2] at he | rw [hR3] at he | skip); subst he; have hn1 := hn.next b1) | (go_at_call 99; have X := CL.out w1; (with_reducible refine X.mono ?_); clear X; rintro e w' ⟨he, rfl⟩; (first | rw [hR1] at he | rw [hR2] at he | rw [hR3] at he | skip); subst he) | (go_at_call 101; have X := CB.out _ hn1 _ k rfl (by omega); (with_reducible refine X.mono ?_); clear X; rintro e w' ⟨he, rfl⟩; (first | rw [hR1] at he | rw [hR2] at he | rw [hR3] at he | skip); subst he) | (go_at_call 102; have X := CX.out (w.alloc (.cells #[.int .i64 0, .string ⟨#[]⟩, .int .i64 0] 36)) (w.heap.size + 1) (by simp); (with_reducible refine X.mono ?_); clear X; rintro e w2 ⟨he, b2⟩; (first | rw [hR1] at he | rw [hR2] at he | rw [hR3] at he | skip); subst he; have hb2 := hn.next b2; obtain ⟨z0, z1, z2, f0, f1, f2⟩ := tok_cells hb2) | (go_at_call 102; have X := CX.out w1 w1.heap.size rfl; (with_reducible refine X.mono ?_); clear X; rintro e w2 ⟨he, b2⟩; (first | rw [hR1] at he | rw [hR2] at he | rw [hR3] at he | skip); subst he; have hb2 := hn1.next b2; obtain ⟨z0, z1, z2, f0, f1, f2⟩ := tok_cells hb2))
   refine bodyPost_ret (v := .tuple #[tokV (11) (Tk.str [45]) (0), .int .i64 ((k : Int) + 1)]) (by simp [results, tokV, Try.results79, go_sem, z0, z1, z2]) rfl (nexted rfl (by omega) hb2 _ _ _)
  ·skip
   go_enter Try.func79, Try.ntmps79
   go_wp2_with (first | (go_at_call 93; have X := CA.out _ hn _ _ (cast1 k); (with_reducible refine X.mono ?_); clear X; rintro e w' ⟨he, rfl⟩; (first | rw [hR1] at he | rw [hR2] at he | rw [hR3] at he | skip); subst he) | (go_at_call 95; have X := rwithin_any (Tk.at' l (k + 1)) (w.alloc (.cells #[.int .i64 0, .string ⟨#[]⟩, .int .i64 0] 36)); (with_reducible refine X.mono ?_); clear X; rintro e w' ⟨he, rfl⟩; (first | rw [hR1] at he | rw [hR2] at he | rw [hR3] at he | skip); subst he) | (go_at_call 96; have X := CE.out _ hn _ _ (cast1 k) (by omega); (with_reducible refine X.mono ?_); clear X; rintro e w' ⟨he, rfl⟩; (first | rw [hR1] at he | rw [hR2] at he | rw [hR3] at he | skip); subst he) | (go_at_call 101; have X := CB.out _ hn _ k rfl (by omega); (with_reducible refine X.mono ?_); clear X; rintro e w' ⟨he, rfl⟩; (first | rw [hR1] at he | rw [hR2] at he | rw [hR3] at he | skip); subst he) | (go_at_call 101; have X := CB.out _ hn _ _ (cast1 k) (by omega); (with_reducible refine X.mono ?_); clear X; rintro e w' ⟨he, rfl⟩; (first | rw [hR1] at he | rw [hR2] at he | rw [hR3] at he | skip); subst he) | (go_at_call 98; have X := CS.out; (with_reducible refine X.mono ?_); clear X; rintro e w1 ⟨he, b1⟩; (first | rw [hR1] at he | rw [hR2] at he | rw [hR3] at he | skip); subst he; have hn1 := hn.next b1) | (go_at_call 99; have X := CL.out w1; (with_reducible refine X.mono ?_); clear X; rintro e w' ⟨he, rfl⟩; (first | rw [hR1] at he | rw [hR2] at he | rw [hR3] at he | skip); subst he) | (go_at_call 101; have X := CB.out _ hn1 _ k rfl (by omega); (with_reducible refine X.mono ?_); clear X; rintro e w' ⟨he, rfl⟩; (first | rw [hR1] at he | rw [hR2] at he | rw [hR3] at he | skip); subst he) | (go_at_call 102; have X := CX.out (w.alloc (.cells #[.int .i64 0, .string ⟨#[]⟩, .int .i64 0] 36)) (w.heap.size + 1) (by simp); (with_reducible refine X.mono ?_); clear X; rintro e w2 ⟨he, b2⟩; (first | rw [hR1] at he | rw [hR2] at he | rw [hR3] at he | skip); subst he; have hb2 := hn.next b2; obtain ⟨z0, z1, z2, f0, f1, f2⟩ := tok_cells hb2) | (go_at_call 102; have X := CX.out w1 w1.heap.size rfl; (with_reducible refine X.mono ?_); clear X; rintro e w2 ⟨he, b2⟩; (first | rw [hR1] at he | rw [hR2] at he | rw [hR3] at he | skip); subst he; have hb2 := hn1.next b2; obtain ⟨z0, z1, z2, f0, f1, f2⟩ := tok_cells hb2))
   refine bodyPost_ret (v := .tuple #[tokV (11) (Tk.str [46]) (0), .int .i64 ((k : Int) + 1)]) (by simp [results, tokV, Try.results79, go_sem, z0, z1, z2]) rfl (nexted rfl (by omega) hb2 _ _ _)
  ·obtain ⟨d1, d2⟩ := hcs
   have e34 : (c == 34) = false := beq_false_of_ne (by omega)
   have e39 : (c == 39) = false := beq_false_of_ne (by omega)
   have e35 : (c == 35) = false := beq_false_of_ne (by omega)
   have e43 : (c == 43) = false := beq_false_of_ne (by omega)
   have e45 : (c == 45) = false := beq_false_of_ne (by omega)
   have e46 : (c == 46) = false := beq_false_of_ne (by omega)
   have e64 : (c == 64) = false := beq_false_of_ne (by omega)
   have e58 : (c == 58) = false := beq_false_of_ne (by omega)
   have e59 : (c == 59) = false := beq_false_of_ne (by omega)
   have e44 : (c == 44) = false := beq_false_of_ne (by omega)
   have e40 : (c == 40) = false := beq_false_of_ne (by omega)
   have e91 : (c == 91) = false := beq_false_of_ne (by omega)
   have e123 : (c == 123) = false := beq_false_of_ne (by omega)
   have e41 : (c == 41) = false := beq_false_of_ne (by omega)
   have e93 : (c == 93) = false := beq_false_of_ne (by omega)
   have e125 : (c == 125) = false := beq_false_of_ne (by omega)
   have g1 : decide (48 <= c) = true := decide_eq_true d1
   have g2 : decide (c <= 57) = true := decide_eq_true d2
   go_enter Try.func79, Try.ntmps79
   go_wp2_with (first | (go_at_call 93; have X := CA.out _ hn _ _ (cast1 k); (with_reducible refine X.mono ?_); clear X; rintro e w' ⟨he, rfl⟩; (first | rw [hR1] at he | rw [hR2] at he | rw [hR3] at he | skip); subst he) | (go_at_call 95; have X := rwithin_any (Tk.at' l (k + 1)) (w.alloc (.cells #[.int .i64 0, .string ⟨#[]⟩, .int .i64 0] 36)); (with_reducible refine X.mono ?_); clear X; rintro e w' ⟨he, rfl⟩; (first | rw [hR1] at he | rw [hR2] at he | rw [hR3] at he | skip); subst he) | (go_at_call 96; have X := CE.out _ hn _ _ (cast1 k) (by omega); (with_reducible refine X.mono ?_); clear X; rintro e w' ⟨he, rfl⟩; (first | rw [hR1] at he | rw [hR2] at he | rw [hR3] at he | skip); subst he) | (go_at_call 101; have X := CB.out _ hn _ k rfl (by omega); (with_reducible refine X.mono ?_); clear X; rintro e w' ⟨he, rfl⟩; (first | rw [hR1] at he | rw [hR2] at he | rw [hR3] at he | skip); subst he) | (go_at_call 101; have X := CB.out _ hn _ _ (cast1 k) (by omega); (with_reducible refine X.mono ?_); clear X; rintro e w' ⟨he, rfl⟩; (first | rw [hR1] at he | rw [hR2] at he | rw [hR3] at he | skip); subst he) | (go_at_call 98; have X := CS.out; (with_reducible refine X.mono ?_); clear X; rintro e w1 ⟨he, b1⟩; (first | rw [hR1] at he | rw [hR2] at he | rw [hR3] at he | skip); subst he; have hn1 := hn.next b1) | (go_at_call 99; have X := CL.out w1; (with_reducible refine X.mono ?_); clear X; rintro e w' ⟨he, rfl⟩; (first | rw [hR1] at he | rw [hR2] at he | rw [hR3] at he | skip); subst he) | (go_at_call 101; have X := CB.out _ hn1 _ k rfl (by omega); (with_reducible refine X.mono ?_); clear X; rintro e w' ⟨he, rfl⟩; (first | rw [hR1] at he | rw [hR2] at he | rw [hR3] at he | skip); subst he) | (go_at_call 102; have X := CX.out (w.alloc (.cells #[.int .i64 0, .string ⟨#[]⟩, .int .i64 0] 36)) (w.heap.size + 1) (by simp); (with_reducible refine X.mono ?_); clear X; rintro e w2 ⟨he, b2⟩; (first | rw [hR1] at he | rw [hR2] at he | rw [hR3] at he | skip); subst he; have hb2 := hn.next b2; obtain ⟨z0, z1, z2, f0, f1, f2⟩ := tok_cells hb2) | (go_at_call 102; have X := CX.out w1 w1.heap.size rfl; (with_reducible refine X.mono ?_); clear X; rintro e w2 ⟨he, b2⟩; (first | rw [hR1] at he | rw [hR2] at he | rw [hR3] at he | skip); subst he; have hb2 := hn1.next b2; obtain ⟨z0, z1, z2, f0, f1, f2⟩ := tok_cells hb2))
   refine bodyPost_ret (v := .tuple #[tokV (11) (Tk.str [c]) (0), .int .i64 ((k : Int) + 1)]) (by simp [results, tokV, Try.results79, go_sem, z0, z1, z2]) rfl (nexted rfl (by omega) hb2 _ _ _)
end Go.Proofs.Ytaofkaehhikfaaa
