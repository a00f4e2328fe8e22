/-
  The walk of split.
-/
import Derived.Test.YtkcabpjfgbghjaaGreatDoorGac
import Derived.Test.YtkcabpjfgbghjaaGreatDoorGau
import Derived.Below
import Derived.Test.YtkcabpjfgbghjaaGreatDoorGab
import Derived.Lib.SmallJoins
import Derived.Lib.IndexBytes
import Derived.Deep.QuietTactic
import Derived.BigQuiet
import Derived.Test.YtkcabpjfgbghjaaGreatDoorGad
import Derived.Deep.RegionHeld3
import Derived.Deep.Cut
import Derived.Deep.CutRange
import Derived.Deep.DeepCutAuto
import Derived.Test.YtkcabpjfgbghjaaGreatDoorGae
set_option maxHeartbeats 16000000
set_option maxRecDepth 100000
namespace Go.Proofs.YtkcabpjfgbghjaaGreatDoor
open Go.RowKit
def parts (a b c d : Int) : Value := .agg #[.int .i64 a, .int .i64 b, .int .i64 c, .int .i64 d]
theorem split_no (s : ByteArray) (w : World) (hs : s.size <= maxLen) (hn : Fx.spD s.data.toList = Fx.spS s.data.toList) :
 Calls Tryz.prog 197 #[.string s] w fun e w' => e = .returned (parts 0 0 0 0) /\ Below w.heap.size w w' := by
 have hs' := hs
 unfold maxLen at hs'
 have b1 := Fx.spS_hi s.data.toList
 have b2 := Fx.spW_hi s.data.toList
 have b3 := Fx.spW_lo s.data.toList
 have hl : s.data.toList.length = s.size := by simp
 rw [hl] at b1 b2
 have hw := Fx.wayD s (Fx.spW s.data.toList)
 have e1 : Fx.dig s.data.toList (Fx.spS s.data.toList) = Fx.spW s.data.toList := rfl
 have e0 : Fx.sgn s.data.toList 0 = Fx.spS s.data.toList := rfl
 have e2 : Fx.spDof s.data.toList (Fx.spW s.data.toList) = Fx.spD s.data.toList := rfl
 rw [e2] at hw
 have hd := Fx.spD_lo s.data.toList
 generalize Fx.spD s.data.toList = d at *
 generalize Fx.spW s.data.toList = k at *
 generalize Fx.spS s.data.toList = j at *
 obtain rfl : d = k := by omega
 obtain rfl : j = d := by omega
 clear e2 hn hd b3 hl
 rcases hw with ⟨h, hb, hd, hl⟩ | ⟨h, hb, hd, -⟩ | ⟨h, hb, -⟩ | ⟨h, -⟩
 ·omega
 all_goals
  go_enter Tryz.func197, Tryz.ntmps197
  go_wp2_with (first | (go_at_call 216; refine (afterSign_any _ _ _ hs (by omega) (by omega)).mono ?_; rintro e w' ⟨rfl, rfl⟩) | (go_at_call 217; refine (afterDigits_any _ _ _ hs (by omega) (by omega)).mono ?_; rintro e w' ⟨rfl, rfl⟩))
  exact bodyPost_ret (v := parts 0 0 0 0) (by simp [parts, results, Tryz.results197, go_sem]) rfl ⟨rfl, (Below.refl _ _).alloc (Nat.le_refl _) _⟩
theorem clash {x a b : Int} (h : (x == a) = true) (hn : a ≠ b) : ¬ (x == b) = true := by
 rw [beq_iff_eq] at *; omega
theorem sign_is (s : ByteArray) (hs : s.size <= maxLen) (a : Int) (i r : Nat) (h : i <= s.size) (ha : a = i) (hr : Fx.sgn s.data.toList i = r) :
 Hid (∀ w : World, Calls Tryz.prog 216 #[.string s, .int .i64 a] w fun e w' => e = .returned (.int .i64 (r : Int)) /\ w = w') := by
 subst ha hr
 exact fun w => afterSign_any s i w hs (by omega) (by omega)
theorem digits_is (s : ByteArray) (hs : s.size <= maxLen) (a : Int) (i r : Nat) (h : i <= s.size) (ha : a = i) (hr : Fx.dig s.data.toList i = r) :
 Hid (∀ w : World, Calls Tryz.prog 217 #[.string s, .int .i64 a] w fun e w' => e = .returned (.int .i64 (r : Int)) /\ w = w') := by
 subst ha hr
 exact fun w => afterDigits_any s i w hs (by omega) (by omega)
theorem split_yes (s : ByteArray) (w : World) (hs : s.size <= maxLen) (hn : ¬ Fx.spD s.data.toList = Fx.spS s.data.toList) :
 Calls Tryz.prog 197 #[.string s] w fun e w' => e = .returned (parts (Fx.spS s.data.toList : Nat) (Fx.spW s.data.toList : Nat) (Fx.spD s.data.toList : Nat) (Fx.spE s.data.toList : Nat)) /\ Below w.heap.size w w' := by
 have hs' := hs
 unfold maxLen at hs'
 have b1 := Fx.spS_hi s.data.toList
 have b2 := Fx.spW_hi s.data.toList
 have b3 := Fx.spW_lo s.data.toList
 have b4 := Fx.spD_hi s.data.toList
 have b5 := Fx.spD_lo s.data.toList
 have b6 := Fx.spE_hi s.data.toList
 have b7 := Fx.spE_lo s.data.toList
 have hl : s.data.toList.length = s.size := by simp
 rw [hl] at b1 b2 b4 b6
 have hw := Fx.wayD s (Fx.spW s.data.toList)
 have he := Fx.wayE s (Fx.spD s.data.toList)
 have e1 : Fx.dig s.data.toList (Fx.spS s.data.toList) = Fx.spW s.data.toList := rfl
 have e0 : Fx.sgn s.data.toList 0 = Fx.spS s.data.toList := rfl
 have e2 : Fx.spDof s.data.toList (Fx.spW s.data.toList) = Fx.spD s.data.toList := rfl
 have e3 : Fx.spEof s.data.toList (Fx.spD s.data.toList) = Fx.spE s.data.toList := rfl
 rw [e2] at hw
 rw [e3] at he
 have g1 := Fx.sgn_lo s.data.toList (Fx.spD s.data.toList + 1)
 have g2 : Fx.spD s.data.toList < s.size -> Fx.sgn s.data.toList (Fx.spD s.data.toList + 1) <= s.size := fun h => hl ▸ Fx.sgn_hi s.data.toList (Fx.spD s.data.toList + 1) (by omega)
 generalize Fx.spE s.data.toList = en at *
 generalize Fx.spD s.data.toList = d at *
 generalize Fx.spW s.data.toList = k at *
 generalize Fx.spS s.data.toList = j at *
 generalize hf : Fx.sgn s.data.toList (d + 1) = f at *
 have CS := sign_is s hs 0 0 j (Nat.zero_le _) rfl e0
 have CW := digits_is s hs j j k b1 rfl e1
 clear e0 e1 e2 e3 hl
 have hdj : decide ((d : Int) = (j : Int)) = false := decide_eq_false (by omega)
 have hdj' : ((d : Int) == (j : Int)) = false := by rw [beq_eq_false_iff_ne]; omega
 have CD : k < s.size -> ∀ r, Fx.dig s.data.toList (k + 1) = r -> Hid (∀ w : World, Calls Tryz.prog 217 #[.string s, .int .i64 ((k : Int) + 1)] w fun e w' => e = .returned (.int .i64 (r : Int)) /\ w = w') := fun h r hr => digits_is s hs ((k : Int) + 1) (k + 1) r (by omega) (by omega) hr
 have CF : d < s.size -> Hid (∀ w : World, Calls Tryz.prog 216 #[.string s, .int .i64 ((d : Int) + 1)] w fun e w' => e = .returned (.int .i64 (f : Int)) /\ w = w') := fun h => sign_is s hs ((d : Int) + 1) (d + 1) f (by omega) (by omega) hf
 have CE : d < s.size -> ∀ r, Fx.dig s.data.toList f = r -> Hid (∀ w : World, Calls Tryz.prog 217 #[.string s, .int .i64 (f : Int)] w fun e w' => e = .returned (.int .i64 (r : Int)) /\ w = w') := fun h r hr => digits_is s hs f f r (g2 h) rfl hr
 rcases he with ⟨i, ib, ie, il⟩ | ⟨i, ib, ie, id⟩ | ⟨i, ib, ic, id⟩ | ⟨i, id⟩
 ·rw [hf] at ie il
  replace CE := CE i en ie.symm
  replace CF := CF i
  clear ie g2 hf
  rcases ib with ib | ⟨ib, ic⟩
  all_goals
   rcases hw with ⟨h, hb, hd, hl⟩ | ⟨h, hb, hd, hk⟩ | ⟨h, hb, hk⟩ | ⟨h, hk⟩
  all_goals try (subst hk; exact absurd hb (clash ib (by decide)))
  all_goals try (subst hk; exact absurd hb (clash ic (by decide)))
  all_goals try (exfalso; omega)
  all_goals
   first | replace CD := CD h _ hd.symm | (subst hk; replace CD := CD h (_ + 1) hd) | (subst hk; clear CD)
   first | clear hd | skip
   go_enter Tryz.func197, Tryz.ntmps197
   go_wp2_with (first | (go_at_call 216; ((with_reducible refine (CS.out _).mono ?_); rintro e w' ⟨rfl, rfl⟩)) | (go_at_call 216; ((with_reducible refine (CF.out _).mono ?_); rintro e w' ⟨rfl, rfl⟩)) | (go_at_call 217; ((with_reducible refine (CW.out _).mono ?_); rintro e w' ⟨rfl, rfl⟩)) | (go_at_call 217; ((with_reducible refine (CD.out _).mono ?_); rintro e w' ⟨rfl, rfl⟩)) | (go_at_call 217; ((with_reducible refine (CE.out _).mono ?_); rintro e w' ⟨rfl, rfl⟩)))
   exact bodyPost_ret (v := parts _ _ _ _) (by simp [parts, results, Tryz.results197, go_sem]) rfl ⟨rfl, (Below.refl _ _).alloc (Nat.le_refl _) _⟩
 ·rw [hf] at ie
  replace CE := CE i f ie
  replace CF := CF i
  clear ie g2 hf
  subst id
  rcases ib with ib | ⟨ib, ic⟩
  all_goals
   rcases hw with ⟨h, hb, hd, hl⟩ | ⟨h, hb, hd, hk⟩ | ⟨h, hb, hk⟩ | ⟨h, hk⟩
  all_goals try (subst hk; exact absurd hb (clash ib (by decide)))
  all_goals try (subst hk; exact absurd hb (clash ic (by decide)))
  all_goals try (exfalso; omega)
  all_goals
   first | replace CD := CD h _ hd.symm | (subst hk; replace CD := CD h (_ + 1) hd) | (subst hk; clear CD)
   first | clear hd | skip
   go_enter Tryz.func197, Tryz.ntmps197
   go_wp2_with (first | (go_at_call 216; ((with_reducible refine (CS.out _).mono ?_); rintro e w' ⟨rfl, rfl⟩)) | (go_at_call 216; ((with_reducible refine (CF.out _).mono ?_); rintro e w' ⟨rfl, rfl⟩)) | (go_at_call 217; ((with_reducible refine (CW.out _).mono ?_); rintro e w' ⟨rfl, rfl⟩)) | (go_at_call 217; ((with_reducible refine (CD.out _).mono ?_); rintro e w' ⟨rfl, rfl⟩)) | (go_at_call 217; ((with_reducible refine (CE.out _).mono ?_); rintro e w' ⟨rfl, rfl⟩)))
   exact bodyPost_ret (v := parts _ _ _ _) (by simp [parts, results, Tryz.results197, go_sem]) rfl ⟨rfl, (Below.refl _ _).alloc (Nat.le_refl _) _⟩
 ·clear CE CF g2 hf
  subst id
  rcases hw with ⟨h, hb, hd, hl⟩ | ⟨h, hb, hd, hk⟩ | ⟨h, hb, hk⟩ | ⟨h, hk⟩
  all_goals try (exfalso; omega)
  all_goals
   first | replace CD := CD h _ hd.symm | (subst hk; replace CD := CD h (_ + 1) hd) | (subst hk; clear CD)
   first | clear hd | skip
   go_enter Tryz.func197, Tryz.ntmps197
   go_wp2_with (first | (go_at_call 216; ((with_reducible refine (CS.out _).mono ?_); rintro e w' ⟨rfl, rfl⟩)) | (go_at_call 216; ((with_reducible refine (CF.out _).mono ?_); rintro e w' ⟨rfl, rfl⟩)) | (go_at_call 217; ((with_reducible refine (CW.out _).mono ?_); rintro e w' ⟨rfl, rfl⟩)) | (go_at_call 217; ((with_reducible refine (CD.out _).mono ?_); rintro e w' ⟨rfl, rfl⟩)) | (go_at_call 217; ((with_reducible refine (CE.out _).mono ?_); rintro e w' ⟨rfl, rfl⟩)))
   exact bodyPost_ret (v := parts _ _ _ _) (by simp [parts, results, Tryz.results197, go_sem]) rfl ⟨rfl, (Below.refl _ _).alloc (Nat.le_refl _) _⟩
 ·clear CE CF g2 hf
  subst id
  rcases hw with ⟨h, hb, hd, hl⟩ | ⟨h, hb, hd, hk⟩ | ⟨h, hb, hk⟩ | ⟨h, hk⟩
  all_goals try (exfalso; omega)
  all_goals
   first | replace CD := CD h _ hd.symm | (subst hk; replace CD := CD h (_ + 1) hd) | (subst hk; clear CD)
   first | clear hd | skip
   go_enter Tryz.func197, Tryz.ntmps197
   go_wp2_with (first | (go_at_call 216; ((with_reducible refine (CS.out _).mono ?_); rintro e w' ⟨rfl, rfl⟩)) | (go_at_call 216; ((with_reducible refine (CF.out _).mono ?_); rintro e w' ⟨rfl, rfl⟩)) | (go_at_call 217; ((with_reducible refine (CW.out _).mono ?_); rintro e w' ⟨rfl, rfl⟩)) | (go_at_call 217; ((with_reducible refine (CD.out _).mono ?_); rintro e w' ⟨rfl, rfl⟩)) | (go_at_call 217; ((with_reducible refine (CE.out _).mono ?_); rintro e w' ⟨rfl, rfl⟩)))
   exact bodyPost_ret (v := parts _ _ _ _) (by simp [parts, results, Tryz.results197, go_sem]) rfl ⟨rfl, (Below.refl _ _).alloc (Nat.le_refl _) _⟩
theorem field_end (a b c d : Int) (w : World) : (Instr.field 191 (.agg #[.int .i64 a, .int .i64 b, .int .i64 c, .int .i64 d]) 3).run Tryz.prog w = .ok (.int .i64 d) w := by kernel_rfl
theorem length_any (s : ByteArray) (w : World) (hs : s.size <= maxLen) :
 Calls Tryz.prog 159 #[.string s] w fun e w' => e = .returned (.int .i64 (Fx.len s.data.toList : Nat)) /\ Below w.heap.size w w' := by
 have HL : Hid (Fx.len s.data.toList = if Fx.spD s.data.toList = Fx.spS s.data.toList then 0 else Fx.spE s.data.toList) := Lib.hid rfl
 have C : (∃ m, m = Fx.len s.data.toList /\ ∃ x y z : Int, ∀ w : World, Calls Tryz.prog 197 #[.string s] w fun e w' => e = .returned (parts x y z (m : Nat)) /\ Below w.heap.size w w') := by
  by_cases hn : Fx.spD s.data.toList = Fx.spS s.data.toList
  ·exact ⟨0, by unfold Fx.len; rw [if_pos hn], 0, 0, 0, fun w => split_no s w hs hn⟩
  ·exact ⟨Fx.spE s.data.toList, by unfold Fx.len; rw [if_neg hn], _, _, _, fun w => split_yes s w hs hn⟩
 clear HL
 obtain ⟨m, hm, x, y, z, C⟩ := C
 have C := Lib.hid C
 rw [<- hm]
 clear hm hs
 have hf := field_end x y z m
 go_enter Tryz.func159, Tryz.ntmps159
 go_wp2_with fail
 refine (C.out _).mono ?_
 rintro e w' ⟨rfl, hb⟩
 unfold parts
 go_wp2_with fail
 go_ret
 exact ⟨rfl, hb⟩
namespace Fx
theorem at_drop (l : List UInt8) (d i : Nat) : at' (l.drop d) i = at' l (d + i) := by
 unfold at'; rw [List.getD_eq_getElem?_getD, List.getD_eq_getElem?_getD, List.getElem?_drop]
theorem sgn_drop (l : List UInt8) (d i : Nat) : sgn (l.drop d) i + d = sgn l (d + i) := by
 unfold sgn; rw [at_drop]; split <;> omega
theorem seg_to_end (l : List UInt8) (a : Nat) : seg l a l.length = l.drop a := by
 unfold seg; rw [<- List.length_drop, List.take_length]
end Fx
theorem atoi_tail (t : ByteArray) (hl : t.size <= 6) (hn : t.data.toList ≠ []) (hd : ∀ c ∈ t.data.toList, Fx.isD c = true) (w : World) :
 Calls Tryz.prog 218 #[.string t] w fun e w' => e = .returned (.tuple #[.int .i64 (Fx.valFrom 0 t.data.toList : Nat), .nilIface]) /\ Below w.heap.size w w' := by
 refine (Tryz.strconv_Atoi t _ (by omega) (Fx.atoi_val hn hd) w).mono ?_
 rintro e w' ⟨he, u, hw⟩
 rw [hw]
 exact ⟨he, Go.Joins.below_bytesWorld _ _ _ _ (Nat.le_refl _)⟩
theorem toList_isEmpty {t : ByteArray} {b : Bool} (h : decide (t.size = 0) = b) : t.toList.isEmpty = b := by
 rw [<- h, Lib.toList_data]
 have hl : t.data.toList.length = t.size := by simp
 rw [<- hl]
 cases t.data.toList <;> simp
theorem exponent_core (t : ByteArray) (w : World) (hs : t.size <= maxLen) (f : Nat) (b : Bool) (h2 : 1 < t.size) (hf : Fx.sgn t.data.toList 1 = f) (hft : f < t.size) (hb : (((t[1]'h2).toNat : Int) == 45) = b)
 (hd : ∀ c ∈ t.data.toList.drop f, Fx.isD c = true) :
 Calls Tryz.prog 198 #[.string t] w fun e w' => e = .returned (.int .i64 (if b = true then - (if t.size - f <= 6 then (Fx.valFrom 0 (t.data.toList.drop f) : Int) else 999999) else (if t.size - f <= 6 then (Fx.valFrom 0 (t.data.toList.drop f) : Int) else 999999))) /\ Below w.heap.size w w' := by
 have hs' := hs
 unfold maxLen at hs'
 have hne : t.toList.isEmpty = false := toList_isEmpty (decide_eq_false (by omega))
 have CS := sign_is t hs 1 1 f (by omega) rfl hf
 have f0 : 1 <= f := by have := Fx.sgn_lo t.data.toList 1; omega
 have ed : (t.extract f t.size).data.toList = t.data.toList.drop f := Lib.extract_to_end t f
 by_cases h6 : t.size - f <= 6
 ·have hv := Fx.valFrom_lt _ 0 hd
  have hlen : (t.data.toList.drop f).length = t.size - f := by simp
  rw [hlen] at hv
  have hp : 10 ^ (t.size - f) <= 10 ^ 6 := Nat.pow_le_pow_right (by decide) h6
  have hvm : Fx.valFrom 0 (t.data.toList.drop f) < 1000000 := by omega
  have CA : Hid (∀ w : World, Calls Tryz.prog 218 #[.string (t.extract f t.size)] w fun e w' => e = .returned (.tuple #[.int .i64 (Fx.valFrom 0 (t.data.toList.drop f) : Nat), .nilIface]) /\ Below w.heap.size w w') := Lib.hid fun w => by
   have := atoi_tail (t.extract f t.size) (by rw [ByteArray.size_extract]; omega) (by rw [ed]; intro h; rw [h] at hlen; simp at hlen; omega) (by rw [ed]; exact hd) w
   rw [ed] at this
   exact this
  rw [if_pos h6]
  generalize Fx.valFrom 0 (t.data.toList.drop f) = v at *
  clear hv hlen hp ed hd hf
  cases b
  all_goals
   go_enter Tryz.func198, Tryz.ntmps198
   go_wp2_with (first | (go_at_call 216; ((with_reducible refine (CS.out _).mono ?_); rintro e w' ⟨rfl, rfl⟩)) | (go_at_call 218; ((with_reducible refine (CA.out _).mono ?_); rintro e w' ⟨rfl, hb⟩)))
   go_ret
   exact ⟨rfl, hb⟩
 ·rw [if_neg h6]
  clear hd hf ed
  cases b
  all_goals
   go_enter Tryz.func198, Tryz.ntmps198
   go_wp2_with (go_at_call 216; ((with_reducible refine (CS.out _).mono ?_); rintro e w' ⟨rfl, rfl⟩))
   go_ret
   exact ⟨rfl, Below.refl _ _⟩
theorem exponent_nil (t : ByteArray) (w : World) (h0 : t.size = 0) :
 Calls Tryz.prog 198 #[.string t] w fun e w' => e = .returned (.int .i64 0) /\ Below w.heap.size w w' := by
 have hne : t.toList.isEmpty = true := toList_isEmpty (decide_eq_true h0)
 clear h0
 go_enter Tryz.func198, Tryz.ntmps198
 go_wp2_with fail
 go_ret
 exact ⟨rfl, Below.refl _ _⟩
theorem exponent_any (s t : ByteArray) (w : World) (hs : s.size <= maxLen) (ht : t.data.toList = s.data.toList.drop (Fx.spD s.data.toList)) (hE : Fx.spE s.data.toList = s.size) :
 Calls Tryz.prog 198 #[.string t] w fun e w' => e = .returned (.int .i64 (Fx.expo s.data.toList)) /\ Below w.heap.size w w' := by
 generalize hl : s.data.toList = l at *
 have hll : l.length = s.size := by rw [<- hl]; simp
 have hts : t.size = s.size - Fx.spD l := by
  have : t.data.toList.length = t.size := by simp
  rw [<- this, ht, List.length_drop, hll]
 have b4 := Fx.spD_hi l
 rcases Fx.spE_case l with h | ⟨h1, h2, h3⟩
 ·unfold Fx.expo; rw [if_pos h]
  exact exponent_nil t w (by omega)
 ·have g1 : Fx.spD l + 1 <= Fx.fromE l := Fx.sgn_lo l _
  have hsg := Fx.sgn_drop l (Fx.spD l) 1
  have hfe : Fx.sgn (l.drop (Fx.spD l)) 1 = Fx.fromE l - Fx.spD l := by unfold Fx.fromE; omega
  have hdr : t.data.toList.drop (Fx.fromE l - Fx.spD l) = Fx.seg l (Fx.fromE l) (Fx.spE l) := by
   rw [ht, List.drop_drop, hE, <- hll, Fx.seg_to_end, show Fx.spD l + (Fx.fromE l - Fx.spD l) = Fx.fromE l by omega]
  have hd : ∀ c ∈ t.data.toList.drop (Fx.fromE l - Fx.spD l), Fx.isD c = true := by
   rw [hdr, h3]; exact Fx.seg_isD l _
  have h2' : 1 < t.size := by omega
  have e1 : Fx.at' l (Fx.spD l + 1) = t[1]'h2' := by
   rw [<- Fx.get_at t 1 h2', ht, Fx.at_drop]
  refine (exponent_core t w (by omega) (Fx.fromE l - Fx.spD l) _ h2' (by rw [ht]; exact hfe) (by omega) rfl hd).mono ?_
  rintro e w' ⟨he, hb⟩
  refine ⟨?_, hb⟩
  rw [he]
  refine ret_int ?_
  rw [hdr]
  unfold Fx.expo Fx.expMag
  have hne : ¬ Fx.spE l = Fx.spD l := by omega
  rw [if_neg hne, show t.size - (Fx.fromE l - Fx.spD l) = Fx.spE l - Fx.fromE l by omega, e1]
  have hc : (((t[1]'h2').toNat : Int) == 45) = true ↔ t[1]'h2' = 45 := byte_eq (n := 45) (by decide)
  by_cases c : t[1]'h2' = 45
  ·rw [if_pos (hc.2 c), if_pos c]; split <;> rfl
  ·rw [if_neg (fun h => c (hc.1 h)), if_neg c]; split <;> rfl
structure Has (w : World) (s : ByteArray) (bp bs : Nat) : Prop where
 c0 : w.cell? ⟨bp, 0, none⟩ = some (.int .i64 (Fx.spS s.data.toList : Nat))
 c1 : w.cell? ⟨bp, 1, none⟩ = some (.int .i64 (Fx.spW s.data.toList : Nat))
 c2 : w.cell? ⟨bp, 2, none⟩ = some (.int .i64 (Fx.spD s.data.toList : Nat))
 cs : w.cell? ⟨bs, 0, none⟩ = some (.string s)
theorem closure_any (s : ByteArray) (bp bs k : Nat) (w : World) (hs : s.size <= 70000) (hk : k <= 10000000) (hw : Has w s bp bs) :
 Calls Tryz.prog 219 #[.int .i64 (k : Int), .pointer (some ⟨bp, 0, none⟩), .pointer (some ⟨bs, 0, none⟩)] w fun e w' => e = .returned (.int .i64 (Fx.dgt s.data.toList k : Nat)) /\ w = w' := by
 have hl : s.data.toList.length = s.size := by simp
 have b1 := Fx.spS_hi s.data.toList
 have b2 := Fx.spW_hi s.data.toList
 have b3 := Fx.spW_lo s.data.toList
 have b4 := Fx.spD_hi s.data.toList
 have b5 := Fx.spD_lo s.data.toList
 rw [hl] at b1 b2 b4
 obtain ⟨c0, c1, c2, cs⟩ := hw
 have hd : ∀ i, Fx.isD (Fx.at' s.data.toList i) = true -> ∀ h : i < s.size, 48 <= (s[i].toNat : Int) /\ (s[i].toNat : Int) <= 57 := by
  intro i h hi
  rw [Fx.get_at s i hi] at h
  exact of_decide_eq_true h
 have hD : Hid (Fx.dgt s.data.toList k = if Fx.spS s.data.toList + k < Fx.spW s.data.toList then Fx.dv (Fx.at' s.data.toList (Fx.spS s.data.toList + k)) else if Fx.spS s.data.toList + k + 1 < Fx.spD s.data.toList then Fx.dv (Fx.at' s.data.toList (Fx.spS s.data.toList + k + 1)) else 0) := Lib.hid rfl
 have hA : Hid (∀ i, Fx.spS s.data.toList <= i -> i < Fx.spW s.data.toList -> Fx.isD (Fx.at' s.data.toList i) = true) := Lib.hid fun i h1 h2 => Fx.dig_in (a := Fx.spS s.data.toList) h1 h2
 have hB : Hid (∀ i, Fx.spW s.data.toList + 1 <= i -> i < Fx.spD s.data.toList -> Fx.isD (Fx.at' s.data.toList i) = true) := Lib.hid fun i h1 h2 => by
  rcases Fx.spD_case s.data.toList with h | ⟨_, _, h⟩
  ·omega
  ·exact Fx.dig_in (a := Fx.spW s.data.toList + 1) h1 (h ▸ h2)
 generalize Fx.spD s.data.toList = d at *
 generalize Fx.spW s.data.toList = wh at *
 generalize Fx.spS s.data.toList = j at *
 have HD := Lib.hid hd
 clear hl hd
 by_cases h1 : j + k < wh
 ·obtain ⟨d1, d2⟩ := HD.out (j + k) (hA.out _ (by omega) h1) (by omega)
  have hv : Hid (Fx.dgt s.data.toList k = Fx.dv s[j + k]) := Lib.hid (by rw [hD.out, if_pos h1, Fx.get_at s (j + k) (by omega)])
  have hsub := Lib.hid (sub_byte d1)
  clear hD hA hB HD
  go_enter Tryz.func219, Tryz.ntmps219
  go_wp2_with fail
  go_ret
  exact ⟨ret_int (by rw [hv.out]; exact hsub.out), rfl⟩
 ·by_cases h2 : j + k + 1 < d
  ·obtain ⟨d1, d2⟩ := HD.out (j + k + 1) (hB.out _ (by omega) h2) (by omega)
   have hv : Hid (Fx.dgt s.data.toList k = Fx.dv s[j + k + 1]) := Lib.hid (by rw [hD.out, if_neg h1, if_pos h2, Fx.get_at s (j + k + 1) (by omega)])
   have hsub := Lib.hid (sub_byte d1)
   clear hD hA hB HD
   go_enter Tryz.func219, Tryz.ntmps219
   go_wp2_with fail
   go_ret
   exact ⟨ret_int (by rw [hv.out]; exact hsub.out), rfl⟩
  ·have hv : Hid (Fx.dgt s.data.toList k = 0) := Lib.hid (by rw [hD.out, if_neg h1, if_neg h2])
   clear hD hA hB HD
   go_enter Tryz.func219, Tryz.ntmps219
   go_wp2_with fail
   go_ret
   exact ⟨ret_int (by rw [hv.out]; rfl), rfl⟩
theorem leading_any (s : ByteArray) (bp bs : Nat) (p : Int) (w : World) (hs : s.size <= 70000) (hp : p <= 10000000) (hp' : -10000000 <= p) (hw : Has w s bp bs) :
 Calls Tryz.prog 199 #[.func (.func 219) #[] #[.pointer (some ⟨bp, 0, none⟩), .pointer (some ⟨bs, 0, none⟩)], .int .i64 ((Fx.spD s.data.toList : Int) - (Fx.spS s.data.toList : Int)), .int .i64 p] w fun e w' => e = .returned (.int .i64 (min (Fx.V (Fx.dgt s.data.toList) p.toNat : Nat) 1099511627776)) /\ w = w' := by
 have C : Hid (∀ k : Nat, k <= 10000000 -> Calls Tryz.prog 219 #[.int .i64 (k : Int), .pointer (some ⟨bp, 0, none⟩), .pointer (some ⟨bs, 0, none⟩)] w fun e w' => e = .returned (.int .i64 (Fx.dgt s.data.toList k : Nat)) /\ w = w') := Lib.hid fun k hk => closure_any s bp bs k w hs hk hw
 have hl : s.data.toList.length = s.size := by simp
 have b1 := Fx.spS_hi s.data.toList
 have b3 := Fx.spW_lo s.data.toList
 have b4 := Fx.spD_hi s.data.toList
 have b5 := Fx.spD_lo s.data.toList
 rw [hl] at b1 b4
 have hz : Hid (∀ i, Fx.spD s.data.toList - Fx.spS s.data.toList <= i -> Fx.dgt s.data.toList i = 0) := Lib.hid fun i hi => by
  unfold Fx.dgt; rw [if_neg (by omega), if_neg (by omega)]
 have hle : Hid (∀ i, Fx.dgt s.data.toList i <= 9) := Lib.hid (Fx.dgt_le _)
 generalize Fx.spD s.data.toList = d at *
 generalize Fx.spW s.data.toList = wh at *
 generalize Fx.spS s.data.toList = j at *
 generalize Fx.dgt s.data.toList = f at *
 clear hw hl
 go_enter Tryz.func199, Tryz.ntmps199
 go_wp2_with fail
 go_loop [7, 8] (fun n i => ∃ k : Nat, (k : Int) <= max p 0 /\ i = .int .i64 k /\ n = .int .i64 (Fx.V f k : Nat) /\ Fx.V f k <= 1099511627776) (fun _ i => 10000000 - (intOf i).toNat)
 case atStart => exact ⟨0, by omega, rfl, rfl, Nat.zero_le _⟩
 case round =>
  obtain ⟨k, hk, rfl, rfl, hv⟩ := hrel
  have hf := hle.out k
  have C1 := Lib.hid (C.out k (by omega))
  have hV := Lib.hid (Fx.V_succ f k)
  by_cases h1 : (k : Int) < p
  ·have hgo : Hid (Fx.V f (k + 1) = Fx.V f k * 10 + f k) := hV
   have hgt : 1099511627776 < Fx.V f k * 10 + f k -> Hid (min ((Fx.V f p.toNat : Nat) : Int) 1099511627776 = 1099511627776) := fun h => Lib.hid (by
    have := Fx.V_le f (a := k + 1) (b := p.toNat) (by omega)
    have := hgo.out
    omega)
   by_cases h2 : 0 < Fx.V f k
   ·have hb2 : decide ((0 : Int) < (Fx.V f k : Int)) = true := decide_eq_true (by omega)
    clear hz
    by_cases h3 : 1099511627776 < Fx.V f k * 10 + f k
    ·have HG := hgt h3
     clear hgt
     go_wp2_with (go_at_call 219; ((with_reducible refine (C1.out).mono ?_); rintro e w' ⟨rfl, rfl⟩))
     go_ret
     exact ⟨ret_int HG.out.symm, rfl⟩
    ·clear hgt
     go_wp2_with (go_at_call 219; ((with_reducible refine (C1.out).mono ?_); rintro e w' ⟨rfl, rfl⟩))
     go_round
     case rel => exact ⟨k + 1, by omega, by go_num, by rw [hgo.out]; go_num, by rw [hgo.out]; omega⟩
     case measure => simp [intOf]; omega
   ·have hb2 : decide ((0 : Int) < (Fx.V f k : Int)) = false := decide_eq_false (by omega)
    clear hgt
    by_cases h4 : (k : Int) < (d : Int) - (j : Int)
    ·clear hz
     go_wp2_with (go_at_call 219; ((with_reducible refine (C1.out).mono ?_); rintro e w' ⟨rfl, rfl⟩))
     go_round
     case rel => exact ⟨k + 1, by omega, by go_num, by rw [hgo.out]; go_num, by rw [hgo.out]; omega⟩
     case measure => simp [intOf]; omega
    ·have hv0 : Hid (Fx.V f p.toNat = 0) := Lib.hid (Fx.V_still f (a := k) (by omega) (fun i hi => hz.out i (by omega)) (by omega))
     have hk0 : Hid (Fx.V f k = 0) := Lib.hid (by omega)
     clear hz
     go_wp2_with fail
     go_ret
     exact ⟨ret_int (by rw [hv0.out, hk0.out]; rfl), rfl⟩
  ·have hv0 : Hid (((Fx.V f p.toNat : Nat) : Int) = Fx.V f k) := Lib.hid (by rw [show p.toNat = k by omega])
   clear hz
   go_wp2_with fail
   go_ret
   exact ⟨ret_int (by rw [hv0.out]; omega), rfl⟩
def DigitsOf (s : ByteArray) (w : World) (e : Ending) (w' : World) : Prop :=
 ∃ bp bs : Nat, e = .returned (.func (.func 219) #[] #[.pointer (some ⟨bp, 0, none⟩), .pointer (some ⟨bs, 0, none⟩)]) /\ Has w' s bp bs /\ Below w.heap.size w w'
theorem digitsOf_any (s : ByteArray) (en : Int) (w : World) :
 Calls Tryz.prog 200 #[.string s, .agg #[.int .i64 (Fx.spS s.data.toList : Nat), .int .i64 (Fx.spW s.data.toList : Nat), .int .i64 (Fx.spD s.data.toList : Nat), .int .i64 en]] w (DigitsOf s w) := by
 have hmf : ∀ (fn : Fn) (first cap : Array Value) (w : World), (Instr.makeFunc fn first cap).run Tryz.prog w = .ok (.func fn first cap) w := fun _ _ _ _ => rfl
 go_enter Tryz.func200, Tryz.ntmps200
 go_wp2_with fail
 go_ret
 refine ⟨w.heap.size + 1, w.heap.size, by simp, ⟨?_, ?_, ?_, ?_⟩, ?_⟩
 ·simp [go_sem]
 ·simp [go_sem]
 ·simp [go_sem]
 ·simp [go_sem]
 ·exact (((Below.refl _ _).alloc (Nat.le_refl _) _).alloc (by simp) _)
theorem len_no {l : List UInt8} (h : Fx.spD l = Fx.spS l) : Fx.len l = 0 := by unfold Fx.len; rw [if_pos h]
theorem len_yes {l : List UInt8} (h : ¬ Fx.spD l = Fx.spS l) : Fx.len l = Fx.spE l := by unfold Fx.len; rw [if_neg h]
theorem parse_no (s : ByteArray) (w : World) (hs : s.size <= 70000) (hn : Fx.isDec s.data.toList = false) :
 Calls Tryz.prog 160 #[.string s] w fun e w' => e = .returned (.tuple #[.int .i64 0, .bool false]) /\ Below w.heap.size w w' := by
 have hs' : s.size <= maxLen := by unfold maxLen; omega
 have hl : s.data.toList.length = s.size := by simp
 by_cases h : Fx.spD s.data.toList = Fx.spS s.data.toList
 ·have C := Lib.hid fun w => split_no s w hs' h
  clear h hn hl hs'
  go_enter Tryz.func160, Tryz.ntmps160
  go_wp2_with (go_at_call 197; ((with_reducible refine (C.out _).mono ?_); rintro e w' ⟨rfl, hb⟩; unfold parts))
  go_ret2
  exact ⟨rfl, hb.alloc hb.size _⟩
 ·have C := Lib.hid fun w => split_yes s w hs' h
  have hE : Fx.spE s.data.toList < s.size := by
   have h1 := of_decide_eq_false hn
   rw [len_yes h, hl] at h1
   have h2 := Fx.spE_hi s.data.toList
   have h3 := Fx.spE_lo s.data.toList
   have h4 := Fx.spD_lo s.data.toList
   have h5 := Fx.spW_lo s.data.toList
   have : Fx.spE s.data.toList ≠ 0 := by omega
   have : ¬ Fx.spE s.data.toList = s.size := fun e => h1 ⟨this, e⟩
   omega
  generalize Fx.spE s.data.toList = en at *
  generalize Fx.spD s.data.toList = d at *
  generalize Fx.spW s.data.toList = wh at *
  generalize Fx.spS s.data.toList = j at *
  clear h hn hl hs'
  go_enter Tryz.func160, Tryz.ntmps160
  go_wp2_with (go_at_call 197; ((with_reducible refine (C.out _).mono ?_); rintro e w' ⟨rfl, hb⟩; unfold parts))
  all_goals (go_ret2; exact ⟨rfl, hb.alloc hb.size _⟩)
theorem parse_yes (s : ByteArray) (w : World) (hs : s.size <= 70000) (hn : Fx.isDec s.data.toList = true) :
 Calls Tryz.prog 160 #[.string s] w fun e w' => e = .returned (.tuple #[.int .i64 (Fx.num s.data.toList), .bool true]) /\ Below w.heap.size w w' := by
 have hs' : s.size <= maxLen := by unfold maxLen; omega
 have hl : s.data.toList.length = s.size := by simp
 have hn' := of_decide_eq_true hn
 have h : ¬ Fx.spD s.data.toList = Fx.spS s.data.toList := fun h => hn'.1 (len_no h)
 rw [len_yes h, hl] at hn'
 have C := Lib.hid fun w => split_yes s w hs' h
 rw [hn'.2] at C
 have CX : Hid (∀ w : World, Calls Tryz.prog 198 #[.string (s.extract (Fx.spD s.data.toList) s.size)] w fun e w' => e = .returned (.int .i64 (Fx.expo s.data.toList)) /\ Below w.heap.size w w') :=
  Lib.hid fun w => exponent_any s _ w hs' (Lib.extract_to_end s _) hn'.2
 have CD := Lib.hid (fun w => digitsOf_any s (s.size : Int) w)
 have CL : Hid (∀ (bp bs : Nat) (p : Int) (w : World), p <= 10000000 -> -10000000 <= p -> Has w s bp bs -> Calls Tryz.prog 199 #[.func (.func 219) #[] #[.pointer (some ⟨bp, 0, none⟩), .pointer (some ⟨bs, 0, none⟩)], .int .i64 ((Fx.spD s.data.toList : Int) - (Fx.spS s.data.toList : Int)), .int .i64 p] w fun e w' => e = .returned (.int .i64 (min (Fx.V (Fx.dgt s.data.toList) p.toNat : Nat) 1099511627776)) /\ w = w') :=
  Lib.hid fun bp bs p w h1 h2 h3 => leading_any s bp bs p w hs h1 h2 h3
 have hx := Fx.expo_bd s.data.toList
 have hnum : Hid (Fx.num s.data.toList = if Fx.at' s.data.toList 0 = 45 then - min ((Fx.V (Fx.dgt s.data.toList) (((Fx.spW s.data.toList - Fx.spS s.data.toList : Nat) : Int) + Fx.expo s.data.toList + 3).toNat : Nat) : Int) 1099511627776 else min ((Fx.V (Fx.dgt s.data.toList) (((Fx.spW s.data.toList - Fx.spS s.data.toList : Nat) : Int) + Fx.expo s.data.toList + 3).toNat : Nat) : Int) 1099511627776) := Lib.hid rfl
 have b1 := Fx.spS_hi s.data.toList
 have b2 := Fx.spW_hi s.data.toList
 have b3 := Fx.spW_lo s.data.toList
 have b4 := Fx.spD_hi s.data.toList
 have b5 := Fx.spD_lo s.data.toList
 have b6 := Fx.spE_lo s.data.toList
 rw [hl] at b1 b2 b4
 rw [hn'.2] at b6
 have hp : 0 < s.size := by omega
 have hat := Lib.hid (Fx.get_at s 0 hp)
 have hne : ((s.size : Int) == 0) = false := by rw [beq_eq_false_iff_ne]; omega
 generalize Fx.expo s.data.toList = x at *
 generalize Fx.num s.data.toList = r at *
 generalize Fx.spD s.data.toList = d at *
 generalize Fx.spW s.data.toList = wh at *
 generalize Fx.spS s.data.toList = j at *
 generalize Fx.dgt s.data.toList = f at *
 clear h hn hn' hl hs'
 go_enter Tryz.func160, Tryz.ntmps160
 go_upto_region 4 with (go_at_call 197; ((with_reducible refine (C.out _).mono ?_); rintro e w1 ⟨rfl, hb⟩; unfold parts))
 have hsz := hb.size
 have k0 : (w1.alloc (.cells #[.int .i64 j, .int .i64 wh, .int .i64 d, .int .i64 s.size] 191)).cell? ⟨w1.heap.size, 0, none⟩ = some (.int .i64 j) := by simp [go_sem]
 have k1 : (w1.alloc (.cells #[.int .i64 j, .int .i64 wh, .int .i64 d, .int .i64 s.size] 191)).cell? ⟨w1.heap.size, 1, none⟩ = some (.int .i64 wh) := by simp [go_sem]
 have k2 : (w1.alloc (.cells #[.int .i64 j, .int .i64 wh, .int .i64 d, .int .i64 s.size] 191)).cell? ⟨w1.heap.size, 2, none⟩ = some (.int .i64 d) := by simp [go_sem]
 have k3 : (w1.alloc (.cells #[.int .i64 j, .int .i64 wh, .int .i64 d, .int .i64 s.size] 191)).cell? ⟨w1.heap.size, 3, none⟩ = some (.int .i64 s.size) := by simp [go_sem]
 have kb : Below w.heap.size w (w1.alloc (.cells #[.int .i64 j, .int .i64 wh, .int .i64 d, .int .i64 s.size] 191)) := hb.alloc hsz _
 have kz : w1.heap.size < (w1.alloc (.cells #[.int .i64 j, .int .i64 wh, .int .i64 d, .int .i64 s.size] 191)).heap.size := by simp
 generalize w1.alloc (.cells #[.int .i64 j, .int .i64 wh, .int .i64 d, .int .i64 s.size] 191) = W at *
 generalize w1.heap.size = b at *
 clear hb hsz C
 have hX := Lib.hid hx
 obtain ⟨hx1, hx2⟩ := hx
 have kd0 : (0 : Int) <= (d : Int) := by omega
 have kd1 : (d : Int) <= (s.size : Int) := by omega
 have KB := Lib.hid kb
 clear kb
 go_cut [5] (fun s5 wx => s5 = .int .i64 ((wh : Int) - (j : Int) + x + 3) /\ wx.cell? ⟨b, 0, none⟩ = some (.int .i64 j) /\ wx.cell? ⟨b, 1, none⟩ = some (.int .i64 wh) /\ wx.cell? ⟨b, 2, none⟩ = some (.int .i64 d) /\ wx.cell? ⟨b, 3, none⟩ = some (.int .i64 s.size) /\ Hid (Below w.heap.size w wx) /\ b < wx.heap.size)
 case first =>
  clear hat hne hnum CD CL
  go_region_held3 (fun w' => w'.cell? ⟨b, 0, none⟩ = some (.int .i64 j) /\ w'.cell? ⟨b, 1, none⟩ = some (.int .i64 wh) /\ w'.cell? ⟨b, 2, none⟩ = some (.int .i64 d) /\ w'.cell? ⟨b, 3, none⟩ = some (.int .i64 s.size))
   (first
    | go_keep
    | (go_split_ands; exact ⟨(hb1.cell kz).trans (by assumption), (hb1.cell kz).trans (by assumption), (hb1.cell kz).trans (by assumption), (hb1.cell kz).trans (by assumption)⟩))
   (first
    | (go_at_call 198; refine (CX.out _).mono ?_; rintro e w2 ⟨rfl, hb1⟩))
  obtain ⟨q0, q1, q2, q3⟩ := ‹w2.cell? _ = _ /\ _›
  have e1 : IntKind.i64.wrap ((wh : Int) - (j : Int)) = (wh : Int) - (j : Int) := IntWalk.i64_in _ (by omega)
  have e2 : IntKind.i64.wrap ((wh : Int) - (j : Int) + x) = (wh : Int) - (j : Int) + x := IntWalk.i64_in _ (by omega)
  have e3 : IntKind.i64.wrap ((wh : Int) - (j : Int) + x + 3) = (wh : Int) - (j : Int) + x + 3 := IntWalk.i64_in _ (by omega)
  go_wp2_with fail
  go_meet
  exact ⟨congrArg (Value.int .i64) (by rw [e1, e2, e3]), q0, q1, q2, q3, Lib.hid (KB.out.drew.trans (hb1.mono (by have := KB.out.size; simpa using this))), by have := hb1.size; simp at this; omega⟩
 case rest =>
  obtain ⟨rfl, c0, c1, c2, c3, hB, hbz⟩ := hcut
  clear k0 k1 k2 k3 kz KB CX
  have ew : IntKind.i64.wrap ((d : Int) - (j : Int)) = (d : Int) - (j : Int) := IntWalk.i64_in _ (by omega)
  have hp1 : (wh : Int) - (j : Int) + x + 3 <= 10000000 := by omega
  have hp2 : -10000000 <= (wh : Int) - (j : Int) + x + 3 := by omega
  clear hX
  go_upto_region 5 with fail
  go_cut [6] (fun s6 wx => s6 = .int .i64 (min (Fx.V f ((wh : Int) - (j : Int) + x + 3).toNat : Nat) 1099511627776) /\ Hid (Below w.heap.size w wx))
  case first =>
   clear hat hne hnum
   go_region_held3 (fun w' => w'.cell? ⟨b, 0, none⟩ = some (.int .i64 j) /\ w'.cell? ⟨b, 1, none⟩ = some (.int .i64 wh) /\ w'.cell? ⟨b, 2, none⟩ = some (.int .i64 d) /\ w'.cell? ⟨b, 3, none⟩ = some (.int .i64 s.size))
    (first
     | go_keep
     | (go_split_ands; exact ⟨(hb1.cell hbz).trans (by assumption), (hb1.cell hbz).trans (by assumption), (hb1.cell hbz).trans (by assumption), (hb1.cell hbz).trans (by assumption)⟩))
    (first
     | (go_at_call 200; refine (CD.out _).mono ?_; rintro e w2 ⟨bp, bs, rfl, hH, hb1⟩)
     | (go_at_call 199; refine (CL.out _ _ _ _ hp1 hp2 hH).mono ?_; rintro e w3 ⟨rfl, rfl⟩))
   have hb2 := hb1.size
   go_wp2_with fail
   go_meet
   exact ⟨rfl, Lib.hid (hB.out.drew.trans (hb1.mono (by have := hB.out.size; simpa using this)))⟩
  case rest =>
   obtain ⟨rfl, hB2⟩ := hcut
   have en : ((wh - j : Nat) : Int) = (wh : Int) - (j : Int) := by omega
   rw [en] at hnum
   clear en ew c0 c1 c2 c3 CD CL hB
   obtain ⟨v, hv, hv1, hv2⟩ : ∃ v : Int, v = min ((Fx.V f ((wh : Int) - (j : Int) + x + 3).toNat : Nat) : Int) 1099511627776 /\ 0 <= v /\ v <= 1099511627776 := ⟨_, rfl, by omega, by omega⟩
   rw [<- hv] at hnum
   rw [<- hv]
   clear hv
   by_cases h45 : s[0] = 45
   ·have hb45 : ((s[0].toNat : Int) == 45) = true := by rw [h45]; rfl
    have HN : Hid (r = -v) := Lib.hid (by rw [hnum.out, hat.out, if_pos h45])
    clear h45 hnum hat
    go_wp2_with fail
    go_ret2
    exact ⟨by rw [HN.out]; rfl, hB2⟩
   ·have hb45 : ((s[0].toNat : Int) == 45) = false := by
     rw [Bool.eq_false_iff]; intro hh; exact h45 ((byte_eq (n := 45) (by decide)).1 hh)
    have HN : Hid (r = v) := Lib.hid (by rw [hnum.out, hat.out, if_neg h45])
    clear h45 hnum hat
    go_wp2_with fail
    go_ret2
    exact ⟨by rw [HN.out]; rfl, hB2⟩
def Tk.sgl (c : Int) : Int × ByteArray :=
 if c = 58 then (14, ⟨#[]⟩) else if c = 59 then (15, ⟨#[]⟩) else if c = 44 then (16, ⟨#[]⟩) else (Tk.symK c, Tk.str [c])
def Single (c : Int) (w : World) (e : Ending) (w' : World) : Prop := e = .returned (tokV (Tk.sgl c).1 (Tk.sgl c).2 0) /\ Below w.heap.size w w'
theorem sgl_other {c : Int} (h1 : c ≠ 58) (h2 : c ≠ 59) (h3 : c ≠ 44) : Tk.sgl c = (Tk.symK c, Tk.str [c]) := by
 unfold Tk.sgl; rw [if_neg h1, if_neg h2, if_neg h3]
theorem one_bs (w : World) (c : Int) : Bs (w.alloc (.cells #[.int .i32 c] 21)) (w.alloc (.cells #[.int .i32 c] 21)).heap.size .i32 (some ⟨w.heap.size, 0, none⟩) [c] := fun _ =>
 ⟨w.heap.size, 0, rfl, by simp, fun j hj => by
  match j, hj with
  | 0, _ => simp [Ru.g, go_sem]⟩
theorem sgl_below {w w2 : World} (h : Below (w.heap.size + 1) (w.alloc zeroTok) w2) (x y z : Value) : Below w.heap.size w (((w2.setCell ⟨w.heap.size, 0, none⟩ x).setCell ⟨w.heap.size, 1, none⟩ y).setCell ⟨w.heap.size, 2, none⟩ z) := tok_below h x y z
theorem single_any (c : Int) (w : World) (h1 : 0 <= c) (h2 : c <= 1114111) :
 Calls Tryz.prog 98 #[.int .i32 c] w (Single c w) := by
 have CW : Hid (∀ (w' : World), Bs w' w'.heap.size .i32 (some ⟨w.heap.size + 1, 0, none⟩) [c] -> Calls Tryz.prog 162 #[.slice (some ⟨w.heap.size + 1, 0, none⟩) 1 1] w' (fun e w2 => ∃ (A : Option Addr) (cap : Nat), e = .returned (.slice A (Ru.wr [c]).length cap) /\ (Ru.wr [c]).length <= cap /\ Bs w2 w2.heap.size .u8 A (Ru.wr [c]) /\ Below w'.heap.size w' w2)) := Lib.hid fun w' hb =>
  (write_any [c] (some ⟨w.heap.size + 1, 0, none⟩) 1 w' (by simp) (by simp) (by intro x hx; rw [List.mem_singleton] at hx; subst hx; omega) hb).mono fun _ _ h => made_form h
 have B0 := one_bs (w.alloc (.cells #[.int .i64 0, .string ⟨#[]⟩, .int .i64 0] 61)) c
 rw [show (w.alloc (.cells #[.int .i64 0, .string ⟨#[]⟩, .int .i64 0] 61)).heap.size = w.heap.size + 1 by simp] at B0
 have HB0 := Lib.hid B0
 clear B0
 by_cases c40 : c = 40
 ·have HE : Hid (Tk.sgl c = (12, Tk.str [c])) := Lib.hid (by subst c40; rfl)
  subst c40
  generalize hs : Ru.wr [40] = r at *
  go_enter Tryz.func98, Tryz.ntmps98
  go_wp2_with (go_at_call 162; ((with_reducible refine (CW.out _ HB0.out).mono ?_); rintro e w1 ⟨A2, c2, rfl, k2, B2, b2⟩; have cv := conv_bytes c2 B2; have hb2 : Below (w.heap.size + 1) (w.alloc zeroTok) w1 := ((Below.refl _ _).alloc (by simp) _).trans (b2.mono (by simp)); obtain ⟨z0, z1, z2, f0, f1, f2⟩ := tok_cells hb2))
  refine bodyPost_ret (v := tokV 12 (strOfNums r) 0) (by simp [results, tokV, Tryz.results98, go_sem, z0, z1, z2]) rfl ⟨by rw [HE.out]; simp only [Tk.str, hs], sgl_below hb2 _ _ _⟩
 by_cases c91 : c = 91
 ·have HE : Hid (Tk.sgl c = (12, Tk.str [c])) := Lib.hid (by subst c91; rfl)
  subst c91
  generalize hs : Ru.wr [91] = r at *
  go_enter Tryz.func98, Tryz.ntmps98
  go_wp2_with (go_at_call 162; ((with_reducible refine (CW.out _ HB0.out).mono ?_); rintro e w1 ⟨A2, c2, rfl, k2, B2, b2⟩; have cv := conv_bytes c2 B2; have hb2 : Below (w.heap.size + 1) (w.alloc zeroTok) w1 := ((Below.refl _ _).alloc (by simp) _).trans (b2.mono (by simp)); obtain ⟨z0, z1, z2, f0, f1, f2⟩ := tok_cells hb2))
  refine bodyPost_ret (v := tokV 12 (strOfNums r) 0) (by simp [results, tokV, Tryz.results98, go_sem, z0, z1, z2]) rfl ⟨by rw [HE.out]; simp only [Tk.str, hs], sgl_below hb2 _ _ _⟩
 by_cases c123 : c = 123
 ·have HE : Hid (Tk.sgl c = (12, Tk.str [c])) := Lib.hid (by subst c123; rfl)
  subst c123
  generalize hs : Ru.wr [123] = r at *
  go_enter Tryz.func98, Tryz.ntmps98
  go_wp2_with (go_at_call 162; ((with_reducible refine (CW.out _ HB0.out).mono ?_); rintro e w1 ⟨A2, c2, rfl, k2, B2, b2⟩; have cv := conv_bytes c2 B2; have hb2 : Below (w.heap.size + 1) (w.alloc zeroTok) w1 := ((Below.refl _ _).alloc (by simp) _).trans (b2.mono (by simp)); obtain ⟨z0, z1, z2, f0, f1, f2⟩ := tok_cells hb2))
  refine bodyPost_ret (v := tokV 12 (strOfNums r) 0) (by simp [results, tokV, Tryz.results98, go_sem, z0, z1, z2]) rfl ⟨by rw [HE.out]; simp only [Tk.str, hs], sgl_below hb2 _ _ _⟩
 by_cases c41 : c = 41
 ·have HE : Hid (Tk.sgl c = (13, Tk.str [c])) := Lib.hid (by subst c41; rfl)
  subst c41
  generalize hs : Ru.wr [41] = r at *
  go_enter Tryz.func98, Tryz.ntmps98
  go_wp2_with (go_at_call 162; ((with_reducible refine (CW.out _ HB0.out).mono ?_); rintro e w1 ⟨A2, c2, rfl, k2, B2, b2⟩; have cv := conv_bytes c2 B2; have hb2 : Below (w.heap.size + 1) (w.alloc zeroTok) w1 := ((Below.refl _ _).alloc (by simp) _).trans (b2.mono (by simp)); obtain ⟨z0, z1, z2, f0, f1, f2⟩ := tok_cells hb2))
  refine bodyPost_ret (v := tokV 13 (strOfNums r) 0) (by simp [results, tokV, Tryz.results98, go_sem, z0, z1, z2]) rfl ⟨by rw [HE.out]; simp only [Tk.str, hs], sgl_below hb2 _ _ _⟩
 by_cases c93 : c = 93
 ·have HE : Hid (Tk.sgl c = (13, Tk.str [c])) := Lib.hid (by subst c93; rfl)
  subst c93
  generalize hs : Ru.wr [93] = r at *
  go_enter Tryz.func98, Tryz.ntmps98
  go_wp2_with (go_at_call 162; ((with_reducible refine (CW.out _ HB0.out).mono ?_); rintro e w1 ⟨A2, c2, rfl, k2, B2, b2⟩; have cv := conv_bytes c2 B2; have hb2 : Below (w.heap.size + 1) (w.alloc zeroTok) w1 := ((Below.refl _ _).alloc (by simp) _).trans (b2.mono (by simp)); obtain ⟨z0, z1, z2, f0, f1, f2⟩ := tok_cells hb2))
  refine bodyPost_ret (v := tokV 13 (strOfNums r) 0) (by simp [results, tokV, Tryz.results98, go_sem, z0, z1, z2]) rfl ⟨by rw [HE.out]; simp only [Tk.str, hs], sgl_below hb2 _ _ _⟩
 by_cases c125 : c = 125
 ·have HE : Hid (Tk.sgl c = (13, Tk.str [c])) := Lib.hid (by subst c125; rfl)
  subst c125
  generalize hs : Ru.wr [125] = r at *
  go_enter Tryz.func98, Tryz.ntmps98
  go_wp2_with (go_at_call 162; ((with_reducible refine (CW.out _ HB0.out).mono ?_); rintro e w1 ⟨A2, c2, rfl, k2, B2, b2⟩; have cv := conv_bytes c2 B2; have hb2 : Below (w.heap.size + 1) (w.alloc zeroTok) w1 := ((Below.refl _ _).alloc (by simp) _).trans (b2.mono (by simp)); obtain ⟨z0, z1, z2, f0, f1, f2⟩ := tok_cells hb2))
  refine bodyPost_ret (v := tokV 13 (strOfNums r) 0) (by simp [results, tokV, Tryz.results98, go_sem, z0, z1, z2]) rfl ⟨by rw [HE.out]; simp only [Tk.str, hs], sgl_below hb2 _ _ _⟩
 by_cases c58 : c = 58
 ·have HE : Hid (Tk.sgl c = (14, ⟨#[]⟩)) := Lib.hid (by subst c58; rfl)
  subst c58
  generalize hs : Ru.wr [58] = r at *
  go_enter Tryz.func98, Tryz.ntmps98
  go_wp2_with (go_at_call 162; ((with_reducible refine (CW.out _ HB0.out).mono ?_); rintro e w1 ⟨A2, c2, rfl, k2, B2, b2⟩; have cv := conv_bytes c2 B2; have hb2 : Below (w.heap.size + 1) (w.alloc zeroTok) w1 := ((Below.refl _ _).alloc (by simp) _).trans (b2.mono (by simp)); obtain ⟨z0, z1, z2, f0, f1, f2⟩ := tok_cells hb2))
  refine bodyPost_ret (v := tokV 14 (⟨#[]⟩) 0) (by simp [results, tokV, Tryz.results98, go_sem, z0, z1, z2]) rfl ⟨by rw [HE.out], sgl_below hb2 _ _ _⟩
 by_cases c59 : c = 59
 ·have HE : Hid (Tk.sgl c = (15, ⟨#[]⟩)) := Lib.hid (by subst c59; rfl)
  subst c59
  generalize hs : Ru.wr [59] = r at *
  go_enter Tryz.func98, Tryz.ntmps98
  go_wp2_with (go_at_call 162; ((with_reducible refine (CW.out _ HB0.out).mono ?_); rintro e w1 ⟨A2, c2, rfl, k2, B2, b2⟩; have cv := conv_bytes c2 B2; have hb2 : Below (w.heap.size + 1) (w.alloc zeroTok) w1 := ((Below.refl _ _).alloc (by simp) _).trans (b2.mono (by simp)); obtain ⟨z0, z1, z2, f0, f1, f2⟩ := tok_cells hb2))
  refine bodyPost_ret (v := tokV 15 (⟨#[]⟩) 0) (by simp [results, tokV, Tryz.results98, go_sem, z0, z1, z2]) rfl ⟨by rw [HE.out], sgl_below hb2 _ _ _⟩
 by_cases c44 : c = 44
 ·have HE : Hid (Tk.sgl c = (16, ⟨#[]⟩)) := Lib.hid (by subst c44; rfl)
  subst c44
  generalize hs : Ru.wr [44] = r at *
  go_enter Tryz.func98, Tryz.ntmps98
  go_wp2_with (go_at_call 162; ((with_reducible refine (CW.out _ HB0.out).mono ?_); rintro e w1 ⟨A2, c2, rfl, k2, B2, b2⟩; have cv := conv_bytes c2 B2; have hb2 : Below (w.heap.size + 1) (w.alloc zeroTok) w1 := ((Below.refl _ _).alloc (by simp) _).trans (b2.mono (by simp)); obtain ⟨z0, z1, z2, f0, f1, f2⟩ := tok_cells hb2))
  refine bodyPost_ret (v := tokV 16 (⟨#[]⟩) 0) (by simp [results, tokV, Tryz.results98, go_sem, z0, z1, z2]) rfl ⟨by rw [HE.out], sgl_below hb2 _ _ _⟩
 have HE : Hid (Tk.sgl c = (11, Tk.str [c])) := Lib.hid (by rw [sgl_other c58 c59 c44]; unfold Tk.symK; rw [if_neg (by omega), if_neg (by omega)])
 have n40 := Ru.eq_f c40
 have n91 := Ru.eq_f c91
 have n123 := Ru.eq_f c123
 have n41 := Ru.eq_f c41
 have n93 := Ru.eq_f c93
 have n125 := Ru.eq_f c125
 have n58 := Ru.eq_f c58
 have n59 := Ru.eq_f c59
 have n44 := Ru.eq_f c44
 clear c40 c91 c123 c41 c93 c125 c58 c59 c44
 generalize hs : Ru.wr [c] = r at *
 go_enter Tryz.func98, Tryz.ntmps98
 go_wp2_with (go_at_call 162; ((with_reducible refine (CW.out _ HB0.out).mono ?_); rintro e w1 ⟨A2, c2, rfl, k2, B2, b2⟩; have cv := conv_bytes c2 B2; have hb2 : Below (w.heap.size + 1) (w.alloc zeroTok) w1 := ((Below.refl _ _).alloc (by simp) _).trans (b2.mono (by simp)); obtain ⟨z0, z1, z2, f0, f1, f2⟩ := tok_cells hb2))
 refine bodyPost_ret (v := tokV 11 (strOfNums r) 0) (by simp [results, tokV, Tryz.results98, go_sem, z0, z1, z2]) rfl ⟨by rw [HE.out]; simp only [Tk.str, hs], sgl_below hb2 _ _ _⟩
section
variable {w : World} {g cap k : Nat} {A : Option Addr} {l : List Int} {pl : ByteArray}
def Tk.wrd (l : List Int) (k : Nat) : Int × Nat := if Tk.at' l (Tk.name l k).2 = 40 then (3, (Tk.name l k).2 + 1) else (2, (Tk.name l k).2)
theorem word_any (hC : Tk.Chr l) (hm : l.length <= 65000) (hk : k <= l.length) (S : Sc w g A cap l pl k) :
 Calls Tryz.prog 97 #[.pointer (some ⟨g, 0, none⟩)] w (Stp g A cap l pl (Tk.wrd l k).2 (tokV (Tk.wrd l k).1 (Tk.str (Tk.name l k).1) 0) w) := by
 have hgb := S.lt
 have S := S.alloc (.cells #[.int .i64 0, .string ⟨#[]⟩, .int .i64 0] 61)
 have M := (Mv.refl g w).alloc (.cells #[.int .i64 0, .string ⟨#[]⟩, .int .i64 0] 61)
 have Z := Tz.new w
 have N0 : Hid (∀ w', Sc w' g A cap l pl k -> Calls Tryz.prog 93 #[.pointer (some ⟨g, 0, none⟩)] w' (Stp g A cap l pl (Tk.name l k).2 (.string (Tk.str (Tk.name l k).1)) w')) := Lib.hid fun w' h => name_any hC hm hk h
 have hn := Tk.name_le l _ k (Nat.le_refl _) hk
 have HWR : Hid (Tk.wrd l k = if Tk.at' l (Tk.name l k).2 = 40 then (3, (Tk.name l k).2 + 1) else (2, (Tk.name l k).2)) := Lib.hid rfl
 clear hC
 generalize Tk.name l k = nm at *
 obtain ⟨ds, j⟩ := nm
 simp only at N0 hn HWR
 have C0 : Hid (∀ w', Sc w' g A cap l pl j -> Calls Tryz.prog 50 #[.pointer (some ⟨g, 0, none⟩), .int .i64 0] w' (Stp g A cap l pl j (.int .i32 (Tk.at' l j)) w')) := Lib.hid fun w' h => peek_any 0 0 rfl (by omega) (by omega) (by omega) h
 by_cases h40 : Tk.at' l j = 40
 ·have hj : j < l.length := Tk.at_lt (fun e => by rw [e] at h40; exact absurd h40 (by decide))
  have T0 : Hid (∀ w', Sc w' g A cap l pl j -> Calls Tryz.prog 92 #[.pointer (some ⟨g, 0, none⟩)] w' (Stp g A cap l pl (j + 1) (.int .i32 (Tk.at' l j)) w')) := Lib.hid fun w' h => take_in (by omega) hj h
  have HE : Hid (Tk.wrd l k = (3, j + 1)) := Lib.hid (by rw [HWR.out, if_pos h40])
  rw [h40] at C0
  clear h40 HWR
  generalize Tk.at' l j = y at *
  go_enter Tryz.func97, Tryz.ntmps97
  go_wp2_with (first | (go_at_call 93; (first | (with_reducible refine (N0.out _ S).mono ?_)); rintro e w1 ⟨rfl, S, m1⟩; have Z := Z.mv m1 hgb; have M := M.trans m1; clear m1; obtain ⟨z0, z1, z2, f0, f1, f2⟩ := Z.cells) | (go_at_call 50; (first | (with_reducible refine (C0.out _ S).mono ?_)); rintro e w1 ⟨rfl, S, m1⟩; have Z := Z.mv m1 hgb; have M := M.trans m1; clear m1; obtain ⟨z0, z1, z2, f0, f1, f2⟩ := Z.cells) | (go_at_call 92; (first | (with_reducible refine (T0.out _ S).mono ?_)); rintro e w1 ⟨rfl, S, m1⟩; have Z := Z.mv m1 hgb; have M := M.trans m1; clear m1; obtain ⟨z0, z1, z2, f0, f1, f2⟩ := Z.cells))
  refine bodyPost_ret (v := tokV (3) (Tk.str ds) (0)) (by simp [results, tokV, Tryz.results97, go_sem, z0, z1, z2]) rfl ⟨by rw [HE.out], sc_stores (by rw [HE.out]; exact S) hgb _ _ _, tz_stores M (Nat.le_refl _) _ _ _⟩
 ·have n40 := Ru.eq_f h40
  have HE : Hid (Tk.wrd l k = (2, j)) := Lib.hid (by rw [HWR.out, if_neg h40])
  clear h40 HWR
  generalize Tk.at' l j = y at *
  go_enter Tryz.func97, Tryz.ntmps97
  go_wp2_with (first | (go_at_call 93; (first | (with_reducible refine (N0.out _ S).mono ?_)); rintro e w1 ⟨rfl, S, m1⟩; have Z := Z.mv m1 hgb; have M := M.trans m1; clear m1; obtain ⟨z0, z1, z2, f0, f1, f2⟩ := Z.cells) | (go_at_call 50; (first | (with_reducible refine (C0.out _ S).mono ?_)); rintro e w1 ⟨rfl, S, m1⟩; have Z := Z.mv m1 hgb; have M := M.trans m1; clear m1; obtain ⟨z0, z1, z2, f0, f1, f2⟩ := Z.cells))
  refine bodyPost_ret (v := tokV (2) (Tk.str ds) (0)) (by simp [results, tokV, Tryz.results97, go_sem, z0, z1, z2]) rfl ⟨by rw [HE.out], sc_stores (by rw [HE.out]; exact S) hgb _ _ _, tz_stores M (Nat.le_refl _) _ _ _⟩
theorem decimal_any (hm : l.length <= 65000) (hk : k <= l.length) (hp : pl.data.toList = l.map Tk.p8) (S : Sc w g A cap l pl k) :
 Calls Tryz.prog 94 #[.pointer (some ⟨g, 0, none⟩)] w (Stp g A cap l pl k (.int .i64 (Tk.nlen l k : Nat)) w) := by
 have hgb := S.lt
 have c1 := S.c1
 have c2 := S.c2
 have hsz : pl.size = l.length := by
  have := congrArg List.length hp
  rw [List.length_map, <- Lib.size_eq] at this
  exact this
 have e2 : (k : Int) <= (pl.size : Int) := by omega
 have e3 : (0 : Int) <= (k : Int) := by omega
 have CL : Hid (∀ w', Calls Tryz.prog 159 #[.string (pl.extract k pl.size)] w' fun e w2 => e = .returned (.int .i64 (Tk.nlen l k : Nat)) /\ Below w'.heap.size w' w2) := Lib.hid fun w' => by
  have h := length_any (pl.extract k pl.size) w' (by unfold maxLen; simp; omega)
  rw [Lib.extract_to_end, hp, Tk.plain_len] at h
  exact h
 have HS := Lib.hid S
 clear S hp hsz
 generalize Tk.nlen l k = n at *
 go_enter Tryz.func94, Tryz.ntmps94
 go_upto_region 1 with fail
 go_region_held3 (fun w' => w'.cell? ⟨g, 1, none⟩ = some (.int .i64 k) /\ w'.cell? ⟨g, 2, none⟩ = some (.string pl))
  (first | go_keep | (go_split_ands; exact ⟨(hb1.cell (p := ⟨g, 1, none⟩) hgb).trans (by assumption), (hb1.cell (p := ⟨g, 2, none⟩) hgb).trans (by assumption)⟩))
  (first | (go_at_call 159; refine (CL.out _).mono ?_; rintro e w2 ⟨rfl, hb1⟩))
 have hbx : Below w.heap.size w w2 := (Below.refl _ _).drew.trans hb1
 go_wp2_with fail
 go_ret
 exact ⟨rfl, HS.out.below hbx hgb, (Mv.refl _ _).then_ hbx (Nat.le_refl _)⟩
def Tk.nbr (l : List Int) (k : Nat) : Int × ByteArray × Nat :=
 if Tk.begs l k = true then (10, Tk.str (Tk.name l k).1, (Tk.name l k).2) else if Tk.at' l k = 37 then (9, ⟨#[]⟩, k + 1) else (8, ⟨#[]⟩, k)
theorem number_any (hC : Tk.Chr l) (hm : l.length <= 65000) (hk : k <= l.length) (hp : pl.data.toList = l.map Tk.p8) (h0 : 0 < Tk.nlen l k) (S : Sc w g A cap l pl k) :
 Calls Tryz.prog 95 #[.pointer (some ⟨g, 0, none⟩)] w (Stp g A cap l pl (Tk.nbr l (k + Tk.nlen l k)).2.2 (tokV (Tk.nbr l (k + Tk.nlen l k)).1 (Tk.nbr l (k + Tk.nlen l k)).2.1 (Tk.nval l k)) w) := by
 have hgb := S.lt
 have S := S.alloc (.cells #[.int .i64 0, .string ⟨#[]⟩, .int .i64 0] 61)
 have M := (Mv.refl g w).alloc (.cells #[.int .i64 0, .string ⟨#[]⟩, .int .i64 0] 61)
 have Z := Tz.new w
 have D0 : Hid (∀ w', Sc w' g A cap l pl k -> Calls Tryz.prog 94 #[.pointer (some ⟨g, 0, none⟩)] w' (Stp g A cap l pl k (.int .i64 (Tk.nlen l k : Nat)) w')) := Lib.hid fun w' h => decimal_any hm hk hp h
 have hsz : pl.size = l.length := by
  have := congrArg List.length hp
  rw [List.length_map, <- Lib.size_eq] at this
  exact this
 have HCC := Lib.hid hC
 have CP : Hid (∀ w', Calls Tryz.prog 160 #[.string (pl.extract k (k + Tk.nlen l k))] w' fun e w2 => e = .returned (.tuple #[.int .i64 (Tk.nval l k), .bool true]) /\ Below w'.heap.size w' w2) := Lib.hid fun w' => by
  have hx : (pl.extract k (k + Tk.nlen l k)).data.toList = ((l.map Tk.p8).drop k).take (Tk.nlen l k) := by
   rw [Lib.extract_data, hp, show k + Tk.nlen l k - k = Tk.nlen l k by omega]
  have hd : Fx.isDec (((l.map Tk.p8).drop k).take (Tk.nlen l k)) = true := by
   have := Fx.begins_yes (l := (l.map Tk.p8).drop k) (by rw [Tk.plain_len]; exact h0)
   rwa [Tk.plain_len] at this
  have hv : Tk.nval l k = Fx.num (((l.map Tk.p8).drop k).take (Tk.nlen l k)) := by
   rw [<- Tk.plain_val]; unfold Tk.pv; rw [if_pos hd]
  have h := parse_yes (pl.extract k (k + Tk.nlen l k)) w' (by simp; omega) (by rw [hx]; exact hd)
  rw [hx, <- hv] at h
  exact h
 have hn := Tk.nlen_le l k hk
 generalize Tk.nval l k = v at *
 generalize Tk.nlen l k = n at *
 have e2 : (k : Int) <= ((k : Int) + (n : Int)) := by omega
 have e3 : ((k : Int) + (n : Int)) <= (pl.size : Int) := by omega
 have e1 : IntKind.i64.wrap ((k : Int) + (n : Int)) = (k : Int) + (n : Int) := IntWalk.i64_in _ (by omega)
 have e4 : (0 : Int) <= (k : Int) + (n : Int) := by omega
 have e5 : ((k : Int) + (n : Int)).toNat = k + n := by omega
 have P0 : Hid (∀ w', Sc w' g A cap l pl k -> Calls Tryz.prog 156 #[.pointer (some ⟨g, 0, none⟩), .int .i64 n] w' (Stp g A cap l pl (k + n) (.tuple #[]) w')) := Lib.hid fun w' h => by have := pass_any _ n rfl (by omega) hk (by omega) h; rwa [Nat.min_eq_left (by omega)] at this
 clear hp hsz hC h0
 go_enter Tryz.func95, Tryz.ntmps95
 go_upto_region 2 with (go_at_call 94; (first | (with_reducible refine (D0.out _ S).mono ?_)); rintro e w1 ⟨rfl, S, m1⟩; have Z := Z.mv m1 hgb; have M := M.trans m1; clear m1; obtain ⟨z0, z1, z2, f0, f1, f2⟩ := Z.cells)
 have c1 := S.c1
 have c2 := S.c2
 go_region_held3 (fun w' => w'.cell? ⟨g, 1, none⟩ = some (.int .i64 k) /\ w'.cell? ⟨g, 2, none⟩ = some (.string pl))
  (first | go_keep | (go_split_ands; exact ⟨(hb1.cell (p := ⟨g, 1, none⟩) S.lt).trans (by assumption), (hb1.cell (p := ⟨g, 2, none⟩) S.lt).trans (by assumption)⟩))
  (first | (go_at_call 160; refine (CP.out _).mono ?_; rintro e w2 ⟨rfl, hb1⟩))
 have hbx : Below w1.heap.size w1 w2 := (Below.refl _ _).drew.trans hb1
 have Z := Z.below hbx (lt_of_block Z)
 have M := M.then_ hbx M.size
 have S := S.below hbx S.lt
 clear hbx hb1 c1 c2 D0 CP e1 e2 e3 e4 e5
 have HJ : Hid (∀ jj, jj = k + n -> Tk.nbr l (k + n) = Tk.nbr l jj) := Lib.hid (by rintro jj rfl; rfl)
 obtain ⟨j, hj⟩ : ∃ j, j = k + n := ⟨_, rfl⟩
 have HN := Lib.hid (HJ.out j hj)
 have hjl : j <= l.length := by omega
 rw [<- hj] at P0
 clear HJ hj
 have N0 : Hid (∀ w', Sc w' g A cap l pl j -> Calls Tryz.prog 96 #[.pointer (some ⟨g, 0, none⟩), .int .i64 0] w' (Stp g A cap l pl j (.bool (Tk.begs l j)) w')) := Lib.hid fun w' h => names_any 0 0 rfl HCC.out.pos (by omega) hjl (by omega) h
 have C0 : Hid (∀ w', Sc w' g A cap l pl j -> Calls Tryz.prog 50 #[.pointer (some ⟨g, 0, none⟩), .int .i64 0] w' (Stp g A cap l pl j (.int .i32 (Tk.at' l j)) w')) := Lib.hid fun w' h => peek_any 0 0 rfl (by omega) hjl (by omega) h
 have HB : Hid (Tk.nbr l j = if Tk.begs l j = true then (10, Tk.str (Tk.name l j).1, (Tk.name l j).2) else if Tk.at' l j = 37 then (9, ⟨#[]⟩, j + 1) else (8, ⟨#[]⟩, j)) := Lib.hid rfl
 cases hb : Tk.begs l j
 ·rw [hb] at N0
  by_cases h37 : Tk.at' l j = 37
  ·have hjlt : j < l.length := Tk.at_lt (fun e => by rw [e] at h37; exact absurd h37 (by decide))
   have T0 : Hid (∀ w', Sc w' g A cap l pl j -> Calls Tryz.prog 92 #[.pointer (some ⟨g, 0, none⟩)] w' (Stp g A cap l pl (j + 1) (.int .i32 (Tk.at' l j)) w')) := Lib.hid fun w' h => take_in (by omega) hjlt h
   have HE : Hid (Tk.nbr l (k + n) = (9, ⟨#[]⟩, j + 1)) := Lib.hid (by rw [HN.out, HB.out, if_neg (by rw [hb]; decide), if_pos h37])
   rw [h37] at C0
   clear HN HB hb h37
   generalize Tk.at' l j = y at *
   go_wp2_with (first | (go_at_call 156; (first | (with_reducible refine (P0.out _ S).mono ?_)); rintro e w1 ⟨rfl, S, m1⟩; have Z := Z.mv m1 hgb; have M := M.trans m1; clear m1; obtain ⟨z0, z1, z2, f0, f1, f2⟩ := Z.cells) | (go_at_call 96; (first | (with_reducible refine (N0.out _ S).mono ?_)); rintro e w1 ⟨rfl, S, m1⟩; have Z := Z.mv m1 hgb; have M := M.trans m1; clear m1; obtain ⟨z0, z1, z2, f0, f1, f2⟩ := Z.cells) | (go_at_call 50; (first | (with_reducible refine (C0.out _ S).mono ?_)); rintro e w1 ⟨rfl, S, m1⟩; have Z := Z.mv m1 hgb; have M := M.trans m1; clear m1; obtain ⟨z0, z1, z2, f0, f1, f2⟩ := Z.cells) | (go_at_call 92; (first | (with_reducible refine (T0.out _ S).mono ?_)); rintro e w1 ⟨rfl, S, m1⟩; have Z := Z.mv m1 hgb; have M := M.trans m1; clear m1; obtain ⟨z0, z1, z2, f0, f1, f2⟩ := Z.cells))
   refine bodyPost_ret (v := tokV (9) (⟨#[]⟩) (v)) (by simp [results, tokV, Tryz.results95, go_sem, z0, z1, z2]) rfl ⟨by rw [HE.out], sc_stores (by rw [HE.out]; exact S) hgb _ _ _, tz_stores M (Nat.le_refl _) _ _ _⟩
  ·have HE : Hid (Tk.nbr l (k + n) = (8, ⟨#[]⟩, j)) := Lib.hid (by rw [HN.out, HB.out, if_neg (by rw [hb]; decide), if_neg h37])
   have n37 := Ru.eq_f h37
   clear HN HB hb h37
   generalize Tk.at' l j = y at *
   go_wp2_with (first | (go_at_call 156; (first | (with_reducible refine (P0.out _ S).mono ?_)); rintro e w1 ⟨rfl, S, m1⟩; have Z := Z.mv m1 hgb; have M := M.trans m1; clear m1; obtain ⟨z0, z1, z2, f0, f1, f2⟩ := Z.cells) | (go_at_call 96; (first | (with_reducible refine (N0.out _ S).mono ?_)); rintro e w1 ⟨rfl, S, m1⟩; have Z := Z.mv m1 hgb; have M := M.trans m1; clear m1; obtain ⟨z0, z1, z2, f0, f1, f2⟩ := Z.cells) | (go_at_call 50; (first | (with_reducible refine (C0.out _ S).mono ?_)); rintro e w1 ⟨rfl, S, m1⟩; have Z := Z.mv m1 hgb; have M := M.trans m1; clear m1; obtain ⟨z0, z1, z2, f0, f1, f2⟩ := Z.cells))
   refine bodyPost_ret (v := tokV (8) (⟨#[]⟩) (v)) (by simp [results, tokV, Tryz.results95, go_sem, z0, z1, z2]) rfl ⟨by rw [HE.out], sc_stores (by rw [HE.out]; exact S) hgb _ _ _, tz_stores M (Nat.le_refl _) _ _ _⟩
 ·rw [hb] at N0
  have HE : Hid (Tk.nbr l (k + n) = (10, Tk.str (Tk.name l j).1, (Tk.name l j).2)) := Lib.hid (by rw [HN.out, HB.out, if_pos hb])
  have X0 : Hid (∀ w', Sc w' g A cap l pl j -> Calls Tryz.prog 93 #[.pointer (some ⟨g, 0, none⟩)] w' (Stp g A cap l pl (Tk.name l j).2 (.string (Tk.str (Tk.name l j).1)) w')) := Lib.hid fun w' h => name_any HCC.out hm hjl h
  clear HN HB hb C0
  generalize Tk.name l j = nm at *
  obtain ⟨ds, j2⟩ := nm
  simp only at X0 HE
  go_wp2_with (first | (go_at_call 156; (first | (with_reducible refine (P0.out _ S).mono ?_)); rintro e w1 ⟨rfl, S, m1⟩; have Z := Z.mv m1 hgb; have M := M.trans m1; clear m1; obtain ⟨z0, z1, z2, f0, f1, f2⟩ := Z.cells) | (go_at_call 96; (first | (with_reducible refine (N0.out _ S).mono ?_)); rintro e w1 ⟨rfl, S, m1⟩; have Z := Z.mv m1 hgb; have M := M.trans m1; clear m1; obtain ⟨z0, z1, z2, f0, f1, f2⟩ := Z.cells) | (go_at_call 93; (first | (with_reducible refine (X0.out _ S).mono ?_)); rintro e w1 ⟨rfl, S, m1⟩; have Z := Z.mv m1 hgb; have M := M.trans m1; clear m1; obtain ⟨z0, z1, z2, f0, f1, f2⟩ := Z.cells))
  refine bodyPost_ret (v := tokV (10) (Tk.str ds) (v)) (by simp [results, tokV, Tryz.results95, go_sem, z0, z1, z2]) rfl ⟨by rw [HE.out], sc_stores (by rw [HE.out]; exact S) hgb _ _ _, tz_stores M (Nat.le_refl _) _ _ _⟩
end
section
variable {w : World} {g cap k : Nat} {A : Option Addr} {l : List Int} {pl : ByteArray}
def GapV (b : Bool) : Value := .tuple #[tokV (if b = true then 1 else 0) ⟨#[]⟩ 0, .bool b]
theorem next_gap (hC : Tk.Chr l) (hm : l.length <= 65000) (hk : k <= l.length) (hg : Ru.whiB (Tk.at' l k) = true ∨ Tk.opn l k = true) (S : Sc w g A cap l pl k) :
 Calls Tryz.prog 51 #[.pointer (some ⟨g, 0, none⟩)] w (Stp g A cap l pl (Tk.sp l k false).1 (GapV (Tk.sp l k false).2) w) := by
 have hgb := S.lt
 have S := S.alloc (.cells #[.int .i64 0, .string ⟨#[]⟩, .int .i64 0] 61)
 have M := (Mv.refl g w).alloc (.cells #[.int .i64 0, .string ⟨#[]⟩, .int .i64 0] 61)
 have Z := Tz.new w
 have C0 : Hid (∀ w', Sc w' g A cap l pl k -> Calls Tryz.prog 50 #[.pointer (some ⟨g, 0, none⟩), .int .i64 0] w' (Stp g A cap l pl k (.int .i32 (Tk.at' l k)) w')) := Lib.hid fun w' h => peek_any 0 0 rfl (by omega) hk (by omega) h
 have O0 : Hid (∀ w', Sc w' g A cap l pl k -> Calls Tryz.prog 87 #[.pointer (some ⟨g, 0, none⟩)] w' (Stp g A cap l pl k (.bool (Tk.opn l k)) w')) := Lib.hid fun w' h => opens_any (by omega) hk h
 have P0 : Hid (∀ w', Sc w' g A cap l pl k -> Calls Tryz.prog 88 #[.pointer (some ⟨g, 0, none⟩)] w' (Stp g A cap l pl (Tk.sp l k false).1 (.bool (Tk.sp l k false).2) w')) := Lib.hid fun w' h => passGap_any hC.pos (by omega) hk h
 clear hC
 generalize Tk.at' l k = c at *
 generalize Tk.opn l k = o at *
 obtain ⟨s, HE⟩ : ∃ s, Hid (Tk.sp l k false = s) := ⟨_, Lib.hid rfl⟩
 rw [HE.out] at P0
 obtain ⟨j, b⟩ := s
 simp only at P0
 cases hw : Ru.whiB c
 ·have ho : o = true := by
   rcases hg with hg | hg
   ·rw [hw] at hg; cases hg
   ·exact hg
  subst ho
  clear hg
  cases b
  ·go_enter Tryz.func51, Tryz.ntmps51
   go_wp2_with (first | (go_at_call 50; (first | (with_reducible refine (C0.out _ S).mono ?_)); rintro e w1 ⟨rfl, S, m1⟩; have Z := Z.mv m1 hgb; have M := M.trans m1; clear m1; obtain ⟨z0, z1, z2, f0, f1, f2⟩ := Z.cells) | (go_at_call 86; ((with_reducible refine (white_any _ _).mono ?_); rintro e w1 ⟨rfl, rfl⟩)) | (go_at_call 87; (first | (with_reducible refine (O0.out _ S).mono ?_)); rintro e w1 ⟨rfl, S, m1⟩; have Z := Z.mv m1 hgb; have M := M.trans m1; clear m1; obtain ⟨z0, z1, z2, f0, f1, f2⟩ := Z.cells) | (go_at_call 88; (first | (with_reducible refine (P0.out _ S).mono ?_)); rintro e w1 ⟨rfl, S, m1⟩; have Z := Z.mv m1 hgb; have M := M.trans m1; clear m1; obtain ⟨z0, z1, z2, f0, f1, f2⟩ := Z.cells))
   refine bodyPost_ret (v := .tuple #[tokV (0) (⟨#[]⟩) (0), .bool false]) (by simp [results, tokV, Tryz.results51, go_sem, z0, z1, z2]) rfl ⟨by rw [HE.out]; rfl, sc_stores (by rw [HE.out]; exact S) hgb _ _ _, tz_stores M (Nat.le_refl _) _ _ _⟩
  ·go_enter Tryz.func51, Tryz.ntmps51
   go_wp2_with (first | (go_at_call 50; (first | (with_reducible refine (C0.out _ S).mono ?_)); rintro e w1 ⟨rfl, S, m1⟩; have Z := Z.mv m1 hgb; have M := M.trans m1; clear m1; obtain ⟨z0, z1, z2, f0, f1, f2⟩ := Z.cells) | (go_at_call 86; ((with_reducible refine (white_any _ _).mono ?_); rintro e w1 ⟨rfl, rfl⟩)) | (go_at_call 87; (first | (with_reducible refine (O0.out _ S).mono ?_)); rintro e w1 ⟨rfl, S, m1⟩; have Z := Z.mv m1 hgb; have M := M.trans m1; clear m1; obtain ⟨z0, z1, z2, f0, f1, f2⟩ := Z.cells) | (go_at_call 88; (first | (with_reducible refine (P0.out _ S).mono ?_)); rintro e w1 ⟨rfl, S, m1⟩; have Z := Z.mv m1 hgb; have M := M.trans m1; clear m1; obtain ⟨z0, z1, z2, f0, f1, f2⟩ := Z.cells))
   refine bodyPost_ret (v := .tuple #[tokV (1) (⟨#[]⟩) (0), .bool true]) (by simp [results, tokV, Tryz.results51, go_sem, z0, z1, z2]) rfl ⟨by rw [HE.out]; rfl, sc_stores (by rw [HE.out]; exact S) hgb _ _ _, tz_stores M (Nat.le_refl _) _ _ _⟩
 ·clear hg
  cases b
  ·go_enter Tryz.func51, Tryz.ntmps51
   go_wp2_with (first | (go_at_call 50; (first | (with_reducible refine (C0.out _ S).mono ?_)); rintro e w1 ⟨rfl, S, m1⟩; have Z := Z.mv m1 hgb; have M := M.trans m1; clear m1; obtain ⟨z0, z1, z2, f0, f1, f2⟩ := Z.cells) | (go_at_call 86; ((with_reducible refine (white_any _ _).mono ?_); rintro e w1 ⟨rfl, rfl⟩)) | (go_at_call 87; (first | (with_reducible refine (O0.out _ S).mono ?_)); rintro e w1 ⟨rfl, S, m1⟩; have Z := Z.mv m1 hgb; have M := M.trans m1; clear m1; obtain ⟨z0, z1, z2, f0, f1, f2⟩ := Z.cells) | (go_at_call 88; (first | (with_reducible refine (P0.out _ S).mono ?_)); rintro e w1 ⟨rfl, S, m1⟩; have Z := Z.mv m1 hgb; have M := M.trans m1; clear m1; obtain ⟨z0, z1, z2, f0, f1, f2⟩ := Z.cells))
   refine bodyPost_ret (v := .tuple #[tokV (0) (⟨#[]⟩) (0), .bool false]) (by simp [results, tokV, Tryz.results51, go_sem, z0, z1, z2]) rfl ⟨by rw [HE.out]; rfl, sc_stores (by rw [HE.out]; exact S) hgb _ _ _, tz_stores M (Nat.le_refl _) _ _ _⟩
  ·go_enter Tryz.func51, Tryz.ntmps51
   go_wp2_with (first | (go_at_call 50; (first | (with_reducible refine (C0.out _ S).mono ?_)); rintro e w1 ⟨rfl, S, m1⟩; have Z := Z.mv m1 hgb; have M := M.trans m1; clear m1; obtain ⟨z0, z1, z2, f0, f1, f2⟩ := Z.cells) | (go_at_call 86; ((with_reducible refine (white_any _ _).mono ?_); rintro e w1 ⟨rfl, rfl⟩)) | (go_at_call 87; (first | (with_reducible refine (O0.out _ S).mono ?_)); rintro e w1 ⟨rfl, S, m1⟩; have Z := Z.mv m1 hgb; have M := M.trans m1; clear m1; obtain ⟨z0, z1, z2, f0, f1, f2⟩ := Z.cells) | (go_at_call 88; (first | (with_reducible refine (P0.out _ S).mono ?_)); rintro e w1 ⟨rfl, S, m1⟩; have Z := Z.mv m1 hgb; have M := M.trans m1; clear m1; obtain ⟨z0, z1, z2, f0, f1, f2⟩ := Z.cells))
   refine bodyPost_ret (v := .tuple #[tokV (1) (⟨#[]⟩) (0), .bool true]) (by simp [results, tokV, Tryz.results51, go_sem, z0, z1, z2]) rfl ⟨by rw [HE.out]; rfl, sc_stores (by rw [HE.out]; exact S) hgb _ _ _, tz_stores M (Nat.le_refl _) _ _ _⟩
end
def NxtV (r : Int × ByteArray × Int × Nat) : Value := .tuple #[tokV r.1 r.2.1 r.2.2.1, .bool true]
theorem Tk.nxt_sgl {l : List Int} {k : Nat} (h : Tk.Past l k) (h64 : Ru.g l k = 64 -> Tk.begs l (k + 1) = false) (hb : Tk.begs l k = false) : Tk.nxt l k = ((Tk.sgl (Ru.g l k)).1, (Tk.sgl (Ru.g l k)).2, 0, k + 1) := by
 rw [Tk.nxt_past h]
 unfold Tk.rest Tk.sgl
 rw [if_neg (fun hh => by rw [h64 hh.1] at hh; exact absurd hh.2 (by decide)), if_neg (by rw [hb]; decide)]
 split
 ·rfl
 ·split
  ·rfl
  ·split <;> rfl
theorem Tk.nxt_num {l : List Int} {k : Nat} (h1 : Ru.g l k ≠ 34) (h2 : Ru.g l k ≠ 39) (h3 : Ru.g l k ≠ 35) (h : 0 < Tk.nlen l k) : Tk.nxt l k = ((Tk.nbr l (k + Tk.nlen l k)).1, (Tk.nbr l (k + Tk.nlen l k)).2.1, Tk.nval l k, (Tk.nbr l (k + Tk.nlen l k)).2.2) := by
 unfold Tk.nxt Tk.nbr
 rw [if_neg (by omega), if_neg (fun hh => h3 hh.1), if_pos ⟨(Tk.nlen_num h).2, h⟩]
 split
 ·rfl
 ·split <;> rfl
theorem Tk.nxt_word {l : List Int} {k : Nat} (h : Tk.Past l k) (h64 : Ru.g l k = 64 -> Tk.begs l (k + 1) = false) (hb : Tk.begs l k = true) : Tk.nxt l k = ((Tk.wrd l k).1, Tk.str (Tk.name l k).1, 0, (Tk.wrd l k).2) := by
 rw [Tk.nxt_past h]
 unfold Tk.rest Tk.wrd
 rw [if_neg (fun hh => by rw [h64 hh.1] at hh; exact absurd hh.2 (by decide)), if_pos hb]
 split <;> rfl
section
variable {w : World} {g cap k : Nat} {A : Option Addr} {l : List Int} {pl : ByteArray}
theorem next_quoted (hC : Tk.Chr l) (hm : l.length <= 65000) (hk : k < l.length) (_hp : pl.data.toList = l.map Tk.p8) (hw : Ru.whiB (Ru.g l k) = false) (ho : Tk.opn l k = false) (hq : Ru.g l k = 34 ∨ Ru.g l k = 39) (S : Sc w g A cap l pl k) :
 Calls Tryz.prog 51 #[.pointer (some ⟨g, 0, none⟩)] w (Stp g A cap l pl (Tk.nxt l k).2.2.2 (NxtV (Tk.nxt l k)) w) := by
 have hgb := S.lt
 have S := S.alloc (.cells #[.int .i64 0, .string ⟨#[]⟩, .int .i64 0] 61)
 have M := (Mv.refl g w).alloc (.cells #[.int .i64 0, .string ⟨#[]⟩, .int .i64 0] 61)
 have Z := Tz.new w
 have hg := hC.g hk
 have C0 : Hid (∀ w', Sc w' g A cap l pl k -> Calls Tryz.prog 50 #[.pointer (some ⟨g, 0, none⟩), .int .i64 0] w' (Stp g A cap l pl k (.int .i32 (Ru.g l k)) w')) := Lib.hid fun w' h => by have := peek_any 0 0 rfl (show l.length <= 65536 by omega) (Nat.le_of_lt hk) (by omega) h; rwa [show k + 0 = k from rfl, Tk.at_in hk] at this
 have O0 : Hid (∀ w', Sc w' g A cap l pl k -> Calls Tryz.prog 87 #[.pointer (some ⟨g, 0, none⟩)] w' (Stp g A cap l pl k (.bool false) w')) := Lib.hid fun w' h => by have := opens_any (show l.length <= 65536 by omega) (Nat.le_of_lt hk) h; rwa [ho] at this
 have T0 : Hid (∀ w', Sc w' g A cap l pl k -> Calls Tryz.prog 92 #[.pointer (some ⟨g, 0, none⟩)] w' (Stp g A cap l pl (k + 1) (.int .i32 (Ru.g l k)) w')) := Lib.hid fun w' h => by have := take_in (show l.length <= 65536 by omega) hk h; rwa [Tk.at_in hk] at this
 have Q0 : Hid (∀ w', Sc w' g A cap l pl k -> Calls Tryz.prog 89 #[.pointer (some ⟨g, 0, none⟩)] w' (Stp g A cap l pl (Tk.qq l (Ru.g l k) (k + 1)).2.2 (tokV (Tk.qq l (Ru.g l k) (k + 1)).1 (Tk.str (Tk.qq l (Ru.g l k) (k + 1)).2.1) 0) w')) := Lib.hid fun w' h => quoted_any hC hm hk hq h
 have HE : Hid (Tk.nxt l k = ((Tk.qq l (Ru.g l k) (k + 1)).1, Tk.str (Tk.qq l (Ru.g l k) (k + 1)).2.1, 0, (Tk.qq l (Ru.g l k) (k + 1)).2.2)) := Lib.hid (by unfold Tk.nxt; rw [if_pos hq])
 clear _hp ho hC hg T0
 generalize Ru.g l k = c at *
 generalize Tk.qq l c (k + 1) = q at *
 obtain ⟨kd, ds, j2⟩ := q
 simp only at Q0 HE
 rcases hq with rfl | rfl
 all_goals
  go_enter Tryz.func51, Tryz.ntmps51
  go_wp2_with (first | (go_at_call 50; (first | (with_reducible refine (C0.out _ S).mono ?_)); rintro e w1 ⟨rfl, S, m1⟩; have Z := Z.mv m1 hgb; have M := M.trans m1; clear m1; obtain ⟨z0, z1, z2, f0, f1, f2⟩ := Z.cells) | (go_at_call 86; ((with_reducible refine (white_any _ _).mono ?_); rintro e w1 ⟨rfl, rfl⟩)) | (go_at_call 87; (first | (with_reducible refine (O0.out _ S).mono ?_)); rintro e w1 ⟨rfl, S, m1⟩; have Z := Z.mv m1 hgb; have M := M.trans m1; clear m1; obtain ⟨z0, z1, z2, f0, f1, f2⟩ := Z.cells) | (go_at_call 89; (first | (with_reducible refine (Q0.out _ S).mono ?_)); rintro e w1 ⟨he, S, m1⟩; unfold tokV at he; subst he; have Z := Z.mv m1 hgb; have M := M.trans m1; clear m1; obtain ⟨z0, z1, z2, f0, f1, f2⟩ := Z.cells))
  refine bodyPost_ret (v := .tuple #[tokV (kd) (Tk.str ds) (0), .bool true]) (by simp [results, tokV, Tryz.results51, go_sem, z0, z1, z2]) rfl ⟨by rw [HE.out]; rfl, sc_stores (by rw [HE.out]; exact S) hgb _ _ _, tz_stores M (Nat.le_refl _) _ _ _⟩
theorem next_hash (hC : Tk.Chr l) (hm : l.length <= 65000) (hk : k < l.length) (_hp : pl.data.toList = l.map Tk.p8) (hw : Ru.whiB (Ru.g l k) = false) (ho : Tk.opn l k = false) (hq : Ru.g l k = 35) (hr : Ru.witB (Tk.at' l (k + 1)) = true ∨ Tk.esc l (k + 1) = true) (S : Sc w g A cap l pl k) :
 Calls Tryz.prog 51 #[.pointer (some ⟨g, 0, none⟩)] w (Stp g A cap l pl (Tk.nxt l k).2.2.2 (NxtV (Tk.nxt l k)) w) := by
 have hgb := S.lt
 have S := S.alloc (.cells #[.int .i64 0, .string ⟨#[]⟩, .int .i64 0] 61)
 have M := (Mv.refl g w).alloc (.cells #[.int .i64 0, .string ⟨#[]⟩, .int .i64 0] 61)
 have Z := Tz.new w
 have hg := hC.g hk
 have C0 : Hid (∀ w', Sc w' g A cap l pl k -> Calls Tryz.prog 50 #[.pointer (some ⟨g, 0, none⟩), .int .i64 0] w' (Stp g A cap l pl k (.int .i32 (Ru.g l k)) w')) := Lib.hid fun w' h => by have := peek_any 0 0 rfl (show l.length <= 65536 by omega) (Nat.le_of_lt hk) (by omega) h; rwa [show k + 0 = k from rfl, Tk.at_in hk] at this
 have O0 : Hid (∀ w', Sc w' g A cap l pl k -> Calls Tryz.prog 87 #[.pointer (some ⟨g, 0, none⟩)] w' (Stp g A cap l pl k (.bool false) w')) := Lib.hid fun w' h => by have := opens_any (show l.length <= 65536 by omega) (Nat.le_of_lt hk) h; rwa [ho] at this
 have T0 : Hid (∀ w', Sc w' g A cap l pl k -> Calls Tryz.prog 92 #[.pointer (some ⟨g, 0, none⟩)] w' (Stp g A cap l pl (k + 1) (.int .i32 (Ru.g l k)) w')) := Lib.hid fun w' h => by have := take_in (show l.length <= 65536 by omega) hk h; rwa [Tk.at_in hk] at this
 have C1 : Hid (∀ w', Sc w' g A cap l pl k -> Calls Tryz.prog 50 #[.pointer (some ⟨g, 0, none⟩), .int .i64 1] w' (Stp g A cap l pl k (.int .i32 (Tk.at' l (k + 1))) w')) := Lib.hid fun w' h => peek_any 1 1 rfl (by omega) (Nat.le_of_lt hk) (by omega) h
 have E1 : Hid (∀ w', Sc w' g A cap l pl k -> Calls Tryz.prog 91 #[.pointer (some ⟨g, 0, none⟩), .int .i64 1] w' (Stp g A cap l pl k (.bool (Tk.esc l (k + 1))) w')) := Lib.hid fun w' h => escapes_any 1 1 rfl hC.pos (by omega) (Nat.le_of_lt hk) (by omega) h
 have X1 : Hid (∀ w', Sc w' g A cap l pl (k + 1) -> Calls Tryz.prog 93 #[.pointer (some ⟨g, 0, none⟩)] w' (Stp g A cap l pl (Tk.name l (k + 1)).2 (.string (Tk.str (Tk.name l (k + 1)).1)) w')) := Lib.hid fun w' h => name_any hC hm hk h
 have HE : Hid (Tk.nxt l k = (5, Tk.str (Tk.name l (k + 1)).1, 0, (Tk.name l (k + 1)).2)) := Lib.hid (by unfold Tk.nxt; rw [if_neg (by omega), if_pos ⟨hq, hr⟩])
 clear _hp ho hC hg
 generalize Ru.g l k = c at *
 generalize Tk.at' l (k + 1) = a1 at *
 generalize Tk.esc l (k + 1) = b1 at *
 generalize Tk.name l (k + 1) = nm at *
 obtain ⟨ds, j2⟩ := nm
 simp only at X1 HE
 subst hq
 cases hwi : Ru.witB a1
 ·have hb : b1 = true := by
   rcases hr with hr | hr
   ·rw [hwi] at hr; cases hr
   ·exact hr
  subst hb
  clear hr
  go_enter Tryz.func51, Tryz.ntmps51
  go_wp2_with (first | (go_at_call 50; (first | (with_reducible refine (C0.out _ S).mono ?_) | (with_reducible refine (C1.out _ S).mono ?_)); rintro e w1 ⟨rfl, S, m1⟩; have Z := Z.mv m1 hgb; have M := M.trans m1; clear m1; obtain ⟨z0, z1, z2, f0, f1, f2⟩ := Z.cells) | (go_at_call 86; ((with_reducible refine (white_any _ _).mono ?_); rintro e w1 ⟨rfl, rfl⟩)) | (go_at_call 90; ((with_reducible refine (within_any _ _).mono ?_); rintro e w1 ⟨rfl, rfl⟩)) | (go_at_call 87; (first | (with_reducible refine (O0.out _ S).mono ?_)); rintro e w1 ⟨rfl, S, m1⟩; have Z := Z.mv m1 hgb; have M := M.trans m1; clear m1; obtain ⟨z0, z1, z2, f0, f1, f2⟩ := Z.cells) | (go_at_call 91; (first | (with_reducible refine (E1.out _ S).mono ?_)); rintro e w1 ⟨rfl, S, m1⟩; have Z := Z.mv m1 hgb; have M := M.trans m1; clear m1; obtain ⟨z0, z1, z2, f0, f1, f2⟩ := Z.cells) | (go_at_call 92; (first | (with_reducible refine (T0.out _ S).mono ?_)); rintro e w1 ⟨rfl, S, m1⟩; have Z := Z.mv m1 hgb; have M := M.trans m1; clear m1; obtain ⟨z0, z1, z2, f0, f1, f2⟩ := Z.cells) | (go_at_call 93; (first | (with_reducible refine (X1.out _ S).mono ?_)); rintro e w1 ⟨rfl, S, m1⟩; have Z := Z.mv m1 hgb; have M := M.trans m1; clear m1; obtain ⟨z0, z1, z2, f0, f1, f2⟩ := Z.cells))
  refine bodyPost_ret (v := .tuple #[tokV (5) (Tk.str ds) (0), .bool true]) (by simp [results, tokV, Tryz.results51, go_sem, z0, z1, z2]) rfl ⟨by rw [HE.out]; rfl, sc_stores (by rw [HE.out]; exact S) hgb _ _ _, tz_stores M (Nat.le_refl _) _ _ _⟩
 ·clear hr
  go_enter Tryz.func51, Tryz.ntmps51
  go_wp2_with (first | (go_at_call 50; (first | (with_reducible refine (C0.out _ S).mono ?_) | (with_reducible refine (C1.out _ S).mono ?_)); rintro e w1 ⟨rfl, S, m1⟩; have Z := Z.mv m1 hgb; have M := M.trans m1; clear m1; obtain ⟨z0, z1, z2, f0, f1, f2⟩ := Z.cells) | (go_at_call 86; ((with_reducible refine (white_any _ _).mono ?_); rintro e w1 ⟨rfl, rfl⟩)) | (go_at_call 90; ((with_reducible refine (within_any _ _).mono ?_); rintro e w1 ⟨rfl, rfl⟩)) | (go_at_call 87; (first | (with_reducible refine (O0.out _ S).mono ?_)); rintro e w1 ⟨rfl, S, m1⟩; have Z := Z.mv m1 hgb; have M := M.trans m1; clear m1; obtain ⟨z0, z1, z2, f0, f1, f2⟩ := Z.cells) | (go_at_call 91; (first | (with_reducible refine (E1.out _ S).mono ?_)); rintro e w1 ⟨rfl, S, m1⟩; have Z := Z.mv m1 hgb; have M := M.trans m1; clear m1; obtain ⟨z0, z1, z2, f0, f1, f2⟩ := Z.cells) | (go_at_call 92; (first | (with_reducible refine (T0.out _ S).mono ?_)); rintro e w1 ⟨rfl, S, m1⟩; have Z := Z.mv m1 hgb; have M := M.trans m1; clear m1; obtain ⟨z0, z1, z2, f0, f1, f2⟩ := Z.cells) | (go_at_call 93; (first | (with_reducible refine (X1.out _ S).mono ?_)); rintro e w1 ⟨rfl, S, m1⟩; have Z := Z.mv m1 hgb; have M := M.trans m1; clear m1; obtain ⟨z0, z1, z2, f0, f1, f2⟩ := Z.cells))
  refine bodyPost_ret (v := .tuple #[tokV (5) (Tk.str ds) (0), .bool true]) (by simp [results, tokV, Tryz.results51, go_sem, z0, z1, z2]) rfl ⟨by rw [HE.out]; rfl, sc_stores (by rw [HE.out]; exact S) hgb _ _ _, tz_stores M (Nat.le_refl _) _ _ _⟩
theorem next_number (hC : Tk.Chr l) (hm : l.length <= 65000) (hk : k < l.length) (hp : pl.data.toList = l.map Tk.p8) (hw : Ru.whiB (Ru.g l k) = false) (ho : Tk.opn l k = false) (h1 : Ru.g l k ≠ 34) (h2 : Ru.g l k ≠ 39) (h3 : Ru.g l k ≠ 35) (hq : 0 < Tk.nlen l k) (S : Sc w g A cap l pl k) :
 Calls Tryz.prog 51 #[.pointer (some ⟨g, 0, none⟩)] w (Stp g A cap l pl (Tk.nxt l k).2.2.2 (NxtV (Tk.nxt l k)) w) := by
 have hgb := S.lt
 have S := S.alloc (.cells #[.int .i64 0, .string ⟨#[]⟩, .int .i64 0] 61)
 have M := (Mv.refl g w).alloc (.cells #[.int .i64 0, .string ⟨#[]⟩, .int .i64 0] 61)
 have Z := Tz.new w
 have hg := hC.g hk
 have C0 : Hid (∀ w', Sc w' g A cap l pl k -> Calls Tryz.prog 50 #[.pointer (some ⟨g, 0, none⟩), .int .i64 0] w' (Stp g A cap l pl k (.int .i32 (Ru.g l k)) w')) := Lib.hid fun w' h => by have := peek_any 0 0 rfl (show l.length <= 65536 by omega) (Nat.le_of_lt hk) (by omega) h; rwa [show k + 0 = k from rfl, Tk.at_in hk] at this
 have O0 : Hid (∀ w', Sc w' g A cap l pl k -> Calls Tryz.prog 87 #[.pointer (some ⟨g, 0, none⟩)] w' (Stp g A cap l pl k (.bool false) w')) := Lib.hid fun w' h => by have := opens_any (show l.length <= 65536 by omega) (Nat.le_of_lt hk) h; rwa [ho] at this
 have T0 : Hid (∀ w', Sc w' g A cap l pl k -> Calls Tryz.prog 92 #[.pointer (some ⟨g, 0, none⟩)] w' (Stp g A cap l pl (k + 1) (.int .i32 (Ru.g l k)) w')) := Lib.hid fun w' h => by have := take_in (show l.length <= 65536 by omega) hk h; rwa [Tk.at_in hk] at this
 have D0 : Hid (∀ w', Sc w' g A cap l pl k -> Calls Tryz.prog 94 #[.pointer (some ⟨g, 0, none⟩)] w' (Stp g A cap l pl k (.int .i64 (Tk.nlen l k : Nat)) w')) := Lib.hid fun w' h => decimal_any hm (Nat.le_of_lt hk) hp h
 have Q0 : Hid (∀ w', Sc w' g A cap l pl k -> Calls Tryz.prog 95 #[.pointer (some ⟨g, 0, none⟩)] w' (Stp g A cap l pl (Tk.nbr l (k + Tk.nlen l k)).2.2 (tokV (Tk.nbr l (k + Tk.nlen l k)).1 (Tk.nbr l (k + Tk.nlen l k)).2.1 (Tk.nval l k)) w')) := Lib.hid fun w' h => number_any hC hm (Nat.le_of_lt hk) hp hq h
 have HE := Lib.hid (Tk.nxt_num h1 h2 h3 hq)
 have hnl := Tk.nlen_le l k (Nat.le_of_lt hk)
 clear hp ho hC hg T0
 generalize Ru.g l k = c at *
 generalize Tk.nbr l (k + Tk.nlen l k) = q at *
 generalize Tk.nval l k = v at *
 generalize Tk.nlen l k = n at *
 obtain ⟨kd, tx, j2⟩ := q
 simp only at Q0 HE
 have n1 := Ru.eq_f h1
 have n2 := Ru.eq_f h2
 have n3 := Ru.eq_f h3
 clear h1 h2 h3
 go_enter Tryz.func51, Tryz.ntmps51
 go_wp2_with (first | (go_at_call 50; (first | (with_reducible refine (C0.out _ S).mono ?_)); rintro e w1 ⟨rfl, S, m1⟩; have Z := Z.mv m1 hgb; have M := M.trans m1; clear m1; obtain ⟨z0, z1, z2, f0, f1, f2⟩ := Z.cells) | (go_at_call 86; ((with_reducible refine (white_any _ _).mono ?_); rintro e w1 ⟨rfl, rfl⟩)) | (go_at_call 87; (first | (with_reducible refine (O0.out _ S).mono ?_)); rintro e w1 ⟨rfl, S, m1⟩; have Z := Z.mv m1 hgb; have M := M.trans m1; clear m1; obtain ⟨z0, z1, z2, f0, f1, f2⟩ := Z.cells) | (go_at_call 94; (first | (with_reducible refine (D0.out _ S).mono ?_)); rintro e w1 ⟨rfl, S, m1⟩; have Z := Z.mv m1 hgb; have M := M.trans m1; clear m1; obtain ⟨z0, z1, z2, f0, f1, f2⟩ := Z.cells) | (go_at_call 95; (first | (with_reducible refine (Q0.out _ S).mono ?_)); rintro e w1 ⟨he, S, m1⟩; unfold tokV at he; subst he; have Z := Z.mv m1 hgb; have M := M.trans m1; clear m1; obtain ⟨z0, z1, z2, f0, f1, f2⟩ := Z.cells))
 refine bodyPost_ret (v := .tuple #[tokV (kd) (tx) (v), .bool true]) (by simp [results, tokV, Tryz.results51, go_sem, z0, z1, z2]) rfl ⟨by rw [HE.out]; rfl, sc_stores (by rw [HE.out]; exact S) hgb _ _ _, tz_stores M (Nat.le_refl _) _ _ _⟩
end
end Go.Proofs.YtkcabpjfgbghjaaGreatDoor
