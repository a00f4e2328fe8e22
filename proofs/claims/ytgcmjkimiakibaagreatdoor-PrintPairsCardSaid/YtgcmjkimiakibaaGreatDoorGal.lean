/-
  The walks of print's empty, sound, named, opens, closes, delimits.
-/
import Derived.Test.YtgcmjkimiakibaaGreatDoorGaj
import Derived.BigGuard
import Derived.WalkSpells
import Derived.WalkLawsBesides
import Derived.Maps.Own
import Derived.Maps.Views
import Derived.Laws.EntriesVeiled
import Derived.Test.YtgcmjkimiakibaaGreatDoorGac
import Derived.Laws.NewBlocks
namespace Go.Proofs.YtgcmjkimiakibaaGreatDoor
open Go.RowKit

/-- a truth, and new memory at most -/
def Bo (b : Bool) (w : World) (e : Ending) (w' : World) : Prop := e = .returned (.bool b) ∧ Below w.heap.size w w'
namespace Pr
open Ru Tk
/-- a text of characters that a sheet can tell -/
def Snd (t : ByteArray) : Prop := ∃ cs, Txt t cs ∧ Ok cs
theorem idx_neg (c : UInt8) : ∀ l : List UInt8, Lib.indexByte l c < 0 ↔ c ∉ l
  | [] => by simp [Lib.indexByte]
  | b :: l => by
    have ih := idx_neg c l
    have hg := Lib.indexByte_ge l c
    unfold Lib.indexByte
    rw [List.mem_cons]
    by_cases h : b = c
    · rw [if_pos (by rw [h]; simp)]
      constructor
      · intro h0; omega
      · intro h0; exact absurd (.inl h.symm) h0
    · rw [if_neg (by simpa using h)]
      have hc : ¬ c = b := fun e => h e.symm
      by_cases h1 : Lib.indexByte l c == -1
      · rw [if_pos h1]
        have h1 : Lib.indexByte l c = -1 := by simpa using h1
        have := ih.1 (by omega)
        constructor
        · intro _ hh
          rcases hh with hh | hh
          · exact hc hh
          · exact this hh
        · intro _; omega
      · rw [if_neg h1]
        have h1 : Lib.indexByte l c ≠ -1 := by simpa using h1
        constructor
        · intro h2; omega
        · intro h2
          have := ih.2 (fun hh => h2 (.inr hh))
          omega
theorem zero_mem {t : ByteArray} {cs : List Int} (h : Txt t cs) : (0 : UInt8) ∈ t.data.toList ↔ (0 : Int) ∈ cs := by
  rw [← mem_wr (by omega) (by omega) h.2, ← h.1]
  unfold bs
  rw [List.mem_map]
  constructor
  · intro hm; exact ⟨0, hm, rfl⟩
  · rintro ⟨b, hb, e⟩
    have : b = 0 := UInt8.toNat_inj.1 (by simpa using e)
    rw [← this]; exact hb
theorem ok_iff {cs : List Int} (h : ∀ c ∈ cs, Is c) : Ok cs ↔ (0 : Int) ∉ cs := by
  constructor
  · intro ho h0; exact (ho 0 h0).2 rfl
  · intro h0 c hc; exact ⟨h c hc, fun e => h0 (by rw [← e]; exact hc)⟩
theorem snd_yes {t : ByteArray} (hv : Lib.validD t.data.toList = true) (h0 : Lib.indexByte t.data.toList 0 < 0) : Snd t := by
  obtain ⟨cs, h⟩ := (valid_iff t).1 hv
  exact ⟨cs, h, (ok_iff h.2).2 fun hm => (idx_neg 0 _).1 h0 ((zero_mem h).2 hm)⟩
theorem snd_valid {t : ByteArray} (h : Snd t) : Lib.validD t.data.toList = true ∧ Lib.indexByte t.data.toList 0 < 0 := by
  obtain ⟨cs, h, ho⟩ := h
  exact ⟨(valid_iff t).2 ⟨cs, h⟩, (idx_neg 0 _).2 fun hm => (ok_iff h.2).1 ho ((zero_mem h).1 hm)⟩
end Pr

set_option maxRecDepth 100000 in
theorem empty_any (t : ByteArray) (b : Bool) (hb : b = true ↔ t = ⟨#[]⟩) (w : World) : Calls Tryz.prog 54 #[.string t] w (Bo b w) := by
  by_cases h : t.size = 0
  · obtain rfl : b = true := hb.2 (Pr.bs_inj (by
      have := Ru.bs_len t
      rw [h] at this
      rw [List.eq_nil_of_length_eq_zero this]; rfl))
    have e : t.toList.isEmpty = true := by
      rw [Lib.toList_data]
      have : t.data.toList.length = 0 := by simpa using h
      rw [List.eq_nil_of_length_eq_zero this]; rfl
    clear hb
    go_enter Tryz.func54, Tryz.ntmps54
    go_wp2_with fail
    go_ret
    exact ⟨rfl, Below.refl _ _⟩
  · obtain rfl : b = false := by
      rw [Bool.eq_false_iff]
      intro hh
      exact h (by rw [hb.1 hh]; rfl)
    have e : t.toList.isEmpty = false := by
      rw [Lib.toList_data]
      have : t.data.toList.length = t.size := by simp
      cases hh : t.data.toList with
      | nil => rw [hh] at this; simp at this; omega
      | cons a r => rfl
    clear hb
    go_enter Tryz.func54, Tryz.ntmps54
    go_wp2_with fail
    go_ret
    exact ⟨rfl, Below.refl _ _⟩

set_option maxRecDepth 100000 in
theorem sound_any (t : ByteArray) (b : Bool) (hb : b = true ↔ Pr.Snd t) (hm : t.size ≤ 9223372036854775807) (w : World) (hT : UTab w.heap.size w) : Calls Tryz.prog 56 #[.string t] w (Bo b w) := by
  have C1 := Lib.hid (Tryz.utf8_ValidString t w hm hT.1)
  have C2 := Lib.hid (fun w => Tryz.strings_IndexByte t 0 w)
  clear hT
  cases hv : Lib.validD t.data.toList
  · obtain rfl : b = false := by
      rw [Bool.eq_false_iff]
      intro hh
      have := (Pr.snd_valid (hb.1 hh)).1
      rw [hv] at this; cases this
    rw [hv] at C1
    clear hv hb
    go_enter Tryz.func56, Tryz.ntmps56
    go_wp2_with (go_at_call 83; ((with_reducible refine (C1.out).mono ?_); rintro e w1 ⟨rfl, b1⟩))
    go_ret
    exact ⟨rfl, b1⟩
  · rw [hv] at C1
    by_cases hi : Lib.indexByte t.data.toList 0 < 0
    · obtain rfl : b = true := hb.2 (Pr.snd_yes hv hi)
      have hd : decide (Lib.indexByte t.data.toList 0 < 0) = true := decide_eq_true hi
      have C2' : Hid (∀ w, Calls Tryz.prog 84 #[.string t, .int .u8 0] w fun e w' => e = .returned (.int .i64 (Lib.indexByte t.data.toList 0)) ∧ w' = w) := Lib.hid C2.out
      clear hv hb C2 hi
      generalize Lib.indexByte t.data.toList 0 = x at *
      go_enter Tryz.func56, Tryz.ntmps56
      go_wp2_with (first | (go_at_call 83; ((with_reducible refine (C1.out).mono ?_); rintro e w1 ⟨rfl, b1⟩)) | (go_at_call 84; ((with_reducible refine (C2'.out _).mono ?_); rintro e w2 ⟨rfl, hw⟩; rw [hw])))
      go_ret
      exact ⟨rfl, b1⟩
    · obtain rfl : b = false := by
        rw [Bool.eq_false_iff]
        intro hh
        exact hi (Pr.snd_valid (hb.1 hh)).2
      have hd : decide (Lib.indexByte t.data.toList 0 < 0) = false := decide_eq_false hi
      have C2' : Hid (∀ w, Calls Tryz.prog 84 #[.string t, .int .u8 0] w fun e w' => e = .returned (.int .i64 (Lib.indexByte t.data.toList 0)) ∧ w' = w) := Lib.hid C2.out
      clear hv hb C2 hi
      generalize Lib.indexByte t.data.toList 0 = x at *
      go_enter Tryz.func56, Tryz.ntmps56
      go_wp2_with (first | (go_at_call 83; ((with_reducible refine (C1.out).mono ?_); rintro e w1 ⟨rfl, b1⟩)) | (go_at_call 84; ((with_reducible refine (C2'.out _).mono ?_); rintro e w2 ⟨rfl, hw⟩; rw [hw])))
      go_ret
      exact ⟨rfl, b1⟩
theorem size_empty {t : ByteArray} : (t.toList.isEmpty = true) ↔ t = ⟨#[]⟩ := by
  rw [Lib.toList_data]
  constructor
  · intro h
    cases hh : t.data.toList with
    | nil => exact Pr.bs_inj (by unfold Ru.bs; rw [hh])
    | cons a r => rw [hh] at h; cases h
  · rintro rfl; rfl
set_option maxRecDepth 100000 in
theorem named_any (t : ByteArray) (b : Bool) (hb : b = true ↔ (t ≠ ⟨#[]⟩ ∧ Pr.Snd t)) (hm : t.size ≤ 9223372036854775807) (w : World) (hT : UTab w.heap.size w) : Calls Tryz.prog 55 #[.string t] w (Bo b w) := by
  by_cases h : t = ⟨#[]⟩
  · obtain rfl : b = false := by
      rw [Bool.eq_false_iff]
      intro hh
      exact (hb.1 hh).1 h
    subst h
    clear hb hT
    go_enter Tryz.func55, Tryz.ntmps55
    go_wp2_with fail
    go_ret
    exact ⟨rfl, Below.refl _ _⟩
  · have C := Lib.hid (sound_any t b (by rw [hb]; exact ⟨fun x => x.2, fun x => ⟨h, x⟩⟩) hm w hT)
    have e : t.toList.isEmpty = false := by
      rw [Bool.eq_false_iff]
      exact fun hh => h (size_empty.1 hh)
    clear hb hT h
    go_enter Tryz.func55, Tryz.ntmps55
    go_wp2_with (go_at_call 56; ((with_reducible refine (C.out).mono ?_); rintro e w1 ⟨rfl, b1⟩))
    go_ret
    exact ⟨rfl, b1⟩
theorem str_test (t : ByteArray) (c : UInt8) : (t.toList == [c]) = decide (t = ⟨#[c]⟩) := by
  rw [Bool.eq_iff_iff, beq_iff_eq, decide_eq_true_iff, Lib.toList_data]
  constructor
  · intro e
    exact Pr.bs_inj (by unfold Ru.bs; rw [e])
  · rintro rfl; rfl
theorem one_ne {a c : UInt8} (h : a ≠ c) : (⟨#[a]⟩ : ByteArray) ≠ ⟨#[c]⟩ := fun e => h (by injection e with e; injection e with e; injection e with e)
set_option maxRecDepth 100000 in
theorem popens_any (t : ByteArray) (b : Bool) (hb : b = true ↔ (t = ⟨#[40]⟩ ∨ t = ⟨#[91]⟩ ∨ t = ⟨#[123]⟩)) (w : World) : Calls Tryz.prog 58 #[.string t] w (Bo b w) := by
  by_cases h1 : t = ⟨#[40]⟩
  · obtain rfl : b = true := hb.2 (.inl h1)
    subst h1
    clear hb
    go_enter Tryz.func58, Tryz.ntmps58
    go_wp2_with fail
    go_ret
    exact ⟨rfl, Below.refl _ _⟩
  · by_cases h2 : t = ⟨#[91]⟩
    · obtain rfl : b = true := hb.2 (.inr (.inl h2))
      subst h2
      clear hb h1
      go_enter Tryz.func58, Tryz.ntmps58
      go_wp2_with fail
      go_ret
      exact ⟨rfl, Below.refl _ _⟩
    · by_cases h3 : t = ⟨#[123]⟩
      · obtain rfl : b = true := hb.2 (.inr (.inr h3))
        subst h3
        clear hb h1 h2
        go_enter Tryz.func58, Tryz.ntmps58
        go_wp2_with fail
        go_ret
        exact ⟨rfl, Below.refl _ _⟩
      · obtain rfl : b = false := by
          rw [Bool.eq_false_iff]
          intro hh
          rcases hb.1 hh with h | h | h
          · exact h1 h
          · exact h2 h
          · exact h3 h
        have e1 : (t.toList == [40]) = false := by rw [str_test]; exact decide_eq_false h1
        have e2 : (t.toList == [91]) = false := by rw [str_test]; exact decide_eq_false h2
        have e3 : (t.toList == [123]) = false := by rw [str_test]; exact decide_eq_false h3
        clear hb h1 h2 h3
        go_enter Tryz.func58, Tryz.ntmps58
        go_wp2_with fail
        go_ret
        exact ⟨rfl, Below.refl _ _⟩
set_option maxRecDepth 100000 in
theorem closes_any (t : ByteArray) (b : Bool) (hb : b = true ↔ (t = ⟨#[41]⟩ ∨ t = ⟨#[93]⟩ ∨ t = ⟨#[125]⟩)) (w : World) : Calls Tryz.prog 59 #[.string t] w (Bo b w) := by
  by_cases h1 : t = ⟨#[41]⟩
  · obtain rfl : b = true := hb.2 (.inl h1)
    subst h1
    clear hb
    go_enter Tryz.func59, Tryz.ntmps59
    go_wp2_with fail
    go_ret
    exact ⟨rfl, Below.refl _ _⟩
  · by_cases h2 : t = ⟨#[93]⟩
    · obtain rfl : b = true := hb.2 (.inr (.inl h2))
      subst h2
      clear hb h1
      go_enter Tryz.func59, Tryz.ntmps59
      go_wp2_with fail
      go_ret
      exact ⟨rfl, Below.refl _ _⟩
    · by_cases h3 : t = ⟨#[125]⟩
      · obtain rfl : b = true := hb.2 (.inr (.inr h3))
        subst h3
        clear hb h1 h2
        go_enter Tryz.func59, Tryz.ntmps59
        go_wp2_with fail
        go_ret
        exact ⟨rfl, Below.refl _ _⟩
      · obtain rfl : b = false := by
          rw [Bool.eq_false_iff]
          intro hh
          rcases hb.1 hh with h | h | h
          · exact h1 h
          · exact h2 h
          · exact h3 h
        have e1 : (t.toList == [41]) = false := by rw [str_test]; exact decide_eq_false h1
        have e2 : (t.toList == [93]) = false := by rw [str_test]; exact decide_eq_false h2
        have e3 : (t.toList == [125]) = false := by rw [str_test]; exact decide_eq_false h3
        clear hb h1 h2 h3
        go_enter Tryz.func59, Tryz.ntmps59
        go_wp2_with fail
        go_ret
        exact ⟨rfl, Below.refl _ _⟩
end Go.Proofs.YtgcmjkimiakibaaGreatDoor

/-
  The walk of print's kinds: the map of all kinds.
-/
namespace Go.Proofs.YtgcmjkimiakibaaGreatDoor
open Go.RowKit Go.Maps
open Go.ChangeMaps (setBlock heap_setBlock_same heap_setBlock_other)

/-- an element, read as itself -/
def rdV : Value → Option (DataW Value × List MemPlace) := fun v => some (.held v, [])
/-- an entry of a literal laid -/
theorem wpList_insert_own {P : Program} (w : World) {ops : Array Oper} {rest : List Oper} {o : Oper} {a : Act} {Q : Exit → Act → World → Prop}
    (hg : o.guard = none) (m x v : Operand) (t : TypeId) (hop : o.op = Op.insert t m x v)
    (k e : TypeId) (K : Keyed P k) (ht : P.underlying t = some (.map k e)) (b n : Nat) (D : DataW Value)
    (hm : a.eval m = .map (some b)) (hown : w.ownsMap P k rdV b n D) (hn : n < maxLen) (key val : Value) (kl : Lit) (hx : a.eval x = key) (hv : a.eval v = val) (hkey : keyOf P k key = some kl)
    (hK : ∀ w', w'.ownsMap P k rdV b (n + 1) (D.put kl (.held val)) → w.grownBy w' (some b) → wpList P ops Q rest (a.put o.dst undef) w') :
    wpList P ops Q (o :: rest) a w := by
  refine wpList_plain hg fun K' hK' => ?_
  obtain ⟨w', hrun, r1, r2⟩ := hown.update K ht hn hkey (show rdV val = some (.held val, []) from rfl)
  unfold Oper.wp
  simp [execOp, hop, hm, hx, hv, hrun, Result.andThen]
  exact hK' _ _ (hK w' r1 r2)

/-- a function as a value -/
abbrev fnV (n : Nat) : Value := .func (Fn.func n) #[] #[]
abbrev kdV (nb : Bool) (may : Nat) (ahead : ByteArray) (body : Value) (behind : ByteArray) : Value := .agg #[.bool nb, fnV may, .string ahead, body, .string behind]
abbrev fText : Value := fnV 46
abbrev fName : Value := fnV 47
abbrev fInner : Value := fnV 49
abbrev fNumber : Value := fnV 51
abbrev fBoth (c : Nat) : Value := .func (Fn.func 53) #[] #[.pointer (some ⟨c, 0, none⟩)]
/-- what stands for each kind; c: where number is -/
def kval (c : Nat) : Nat → Value
  | 1 => kdV false 54 ⟨#[10]⟩ fText ⟨#[]⟩
  | 2 => kdV false 55 ⟨#[]⟩ fName ⟨#[]⟩
  | 3 => kdV false 55 ⟨#[]⟩ fName ⟨#[40]⟩
  | 4 => kdV false 55 ⟨#[64]⟩ fName ⟨#[]⟩
  | 5 => kdV false 55 ⟨#[35]⟩ fName ⟨#[]⟩
  | 6 => kdV false 56 ⟨#[34]⟩ fInner ⟨#[34]⟩
  | 7 => kdV false 56 ⟨#[34]⟩ fInner ⟨#[]⟩
  | 8 => kdV true 54 ⟨#[]⟩ fNumber ⟨#[]⟩
  | 9 => kdV true 54 ⟨#[]⟩ fNumber ⟨#[37]⟩
  | 10 => kdV true 55 ⟨#[]⟩ (fBoth c) ⟨#[]⟩
  | 11 => kdV false 57 ⟨#[]⟩ fText ⟨#[]⟩
  | 12 => kdV false 58 ⟨#[]⟩ fText ⟨#[]⟩
  | 13 => kdV false 59 ⟨#[]⟩ fText ⟨#[]⟩
  | 14 => kdV false 54 ⟨#[58]⟩ fText ⟨#[]⟩
  | 15 => kdV false 54 ⟨#[59]⟩ fText ⟨#[]⟩
  | 16 => kdV false 54 ⟨#[44]⟩ fText ⟨#[]⟩
  | _ => .agg #[.bool false, .nilFunc, .string ⟨#[]⟩, .nilFunc, .string ⟨#[]⟩]
/-- the map's reading, its first n entries laid -/
def kD (c : Nat) : Nat → DataW Value
  | 0 => .map []
  | n + 1 => (kD c n).put (.int .i64 ((n + 1 : Nat) : Int)) (.held (kval c (n + 1)))
theorem kD_map (c : Nat) : ∀ n, IsMap (kD c n)
  | 0 => isMap_empty
  | n + 1 => (kD_map c n).put _ _
theorem kD_at (c : Nat) (j : Int) (z : DataW Value) : ∀ n, (kD c n).atKey (.int .i64 j) z = if 1 ≤ j ∧ j ≤ (n : Int) then .held (kval c j.toNat) else z
  | 0 => by rw [if_neg (by omega)]; rfl
  | n + 1 => by
    unfold kD
    by_cases h : j = ((n + 1 : Nat) : Int)
    · subst h
      rw [atKey_put_same (kD_map c n) (by show WideAt.IsKeyLit (.int _ _); trivial), if_pos (by omega), Int.toNat_natCast]
    · rw [atKey_put_other (by intro e; injection e with _ e; exact h e), kD_at c j z n]
      by_cases h2 : 1 ≤ j ∧ j ≤ (n : Int)
      · rw [if_pos h2, if_pos (by omega)]
      · rw [if_neg h2, if_neg (by omega)]
/-- block M is the map of all kinds; block c holds number -/
structure Kinds (w : World) (M c : Nat) : Prop where
  m : ∃ n, w.ownsMap Tryz.prog 3 rdV M n (kD c 16)
  n : w.heap[c]? = some (.cells #[fNumber] 34 (0, 0))
/-- what kinds gives -/
def KindsAt (w : World) (e : Ending) (w' : World) : Prop := ∃ M c, e = .returned (.map (some M)) ∧ Kinds w' M c ∧ M < w'.heap.size ∧ c < w'.heap.size ∧ Below w.heap.size w w'
theorem int_wf16 {n : Nat} (h : n ≤ 16) : keyOf Tryz.prog 3 (.int .i64 (n : Int)) = some (.int .i64 (n : Int)) := by
  refine keyOf_int_mk Tryz.underlying3 ?_
  simp [Lit.wf]
  rcases (show n = 0 ∨ n = 1 ∨ n = 2 ∨ n = 3 ∨ n = 4 ∨ n = 5 ∨ n = 6 ∨ n = 7 ∨ n = 8 ∨ n = 9 ∨ n = 10 ∨ n = 11 ∨ n = 12 ∨ n = 13 ∨ n = 14 ∨ n = 15 ∨ n = 16 by omega) with rfl | rfl | rfl | rfl | rfl | rfl | rfl | rfl | rfl | rfl | rfl | rfl | rfl | rfl | rfl | rfl | rfl <;> decide
/-- where the n-th entry has been laid -/
def KAt (w : World) (n : Nat) (wx : World) : Prop :=
  wx.ownsMap Tryz.prog 3 rdV (w.heap.size + 1) n (kD w.heap.size n) ∧ wx.heap[w.heap.size]? = some (.cells #[fNumber] 34 (0, 0)) ∧ Below w.heap.size w wx ∧ w.heap.size + 1 < wx.heap.size
theorem KAt.step {w wx w1 : World} {n : Nat} (h : KAt w n wx) (ho : w1.ownsMap Tryz.prog 3 rdV (w.heap.size + 1) (n + 1) (kD w.heap.size (n + 1))) (hg : wx.grownBy w1 (some (w.heap.size + 1))) : KAt w (n + 1) w1 := by
  obtain ⟨_, h2, h3, h4⟩ := h
  refine ⟨ho, (hg.block _ (by omega) (by simp)).trans h2, h3.grown hg (by omega) (fun k hk => by injection hk with hk; omega), Nat.lt_of_lt_of_le h4 hg.size⟩

theorem KAt.cell {w wx : World} {n : Nat} (h : KAt w n wx) : wx.cell? ⟨w.heap.size, 0, none⟩ = some fNumber := by simp [World.cell?, h.2.1]
set_option maxHeartbeats 4000000 in
set_option maxRecDepth 100000 in
theorem kinds_any (w : World) : Calls Tryz.prog 19 #[] w (KindsAt w) := by
  have hmm := @run_makeMap Tryz.prog
  have K := int_keyed (P := Tryz.prog) Tryz.underlying3
  have H0 : Hid (KAt w 0 ((w.alloc (.cells #[fNumber] 34)).alloc (.map #[] 0))) := Lib.hid (by
    refine ⟨?_, ?_, ((Below.refl _ _).alloc (Nat.le_refl _) _).alloc (by simp) _, by simp⟩
    · have := World.ownsMap_made (w.alloc (.cells #[fNumber] 34)) Tryz.prog 3 rdV
      rw [show (w.alloc (.cells #[fNumber] 34)).heap.size = w.heap.size + 1 by simp] at this
      exact this
    · exact (Below.heap_alloc _ _ _ (by simp)).trans (heap_alloc_new w _))
  go_enter Tryz.func19, Tryz.ntmps19
  go_wp2_with (refine wpList_insert_own _ rfl _ _ _ 47 rfl 3 60 K Tryz.underlying47 (w.heap.size + 1) _ _ rfl H0.out.1 (by unfold maxLen; omega) _ _ _ rfl rfl (keyOf_int_mk Tryz.underlying3 (by decide)) ?_; intro w1 ho hg; have H1 := Lib.hid (KAt.step H0.out ho hg); clear H0 ho hg; have hcl := H1.out.cell; have H0 := H1; clear H1)
  go_ret
  exact ⟨_, _, rfl, ⟨⟨_, H0.out.1⟩, H0.out.2.1⟩, H0.out.2.2.2, by have := H0.out.2.2.2; omega, H0.out.2.2.1⟩
end Go.Proofs.YtgcmjkimiakibaaGreatDoor

/-
  Words for a token in memory. No run of the program in this text.
-/
namespace Go.Proofs.YtgcmjkimiakibaaGreatDoor
open Go.RowKit

namespace Tk
def pushes (ds : List Int) (r : Int × List Int × Nat) : Int × List Int × Nat := (r.1, ds ++ r.2.1, r.2.2)
end Tk
/-- a token that nothing has been said of -/
abbrev zeroTok : Obj := .cells #[.int .i64 0, .string ⟨#[]⟩, .int .i64 0] 32
def tokV (kind : Int) (t : ByteArray) (n : Int) : Value := .agg #[.int .i64 kind, .string t, .int .i64 n]
def QuoAt (l : List Int) (e : Int) (k0 : Nat) (w : World) (v1 v7 : Value) (wr : World) : Prop :=
  ∃ (k : Nat) (ds : List Int), k ≤ l.length + 1 ∧ v1 = .int .i64 k ∧ Hid (Tk.qq l e k0 = Tk.pushes ds (Tk.qq l e k)) ∧ wr.ownsRow (w.heap.size + 1) 3 1 v7 ds.length (nums .i64 ds) ∧ Hid (Below (w.heap.size + 1) (w.alloc zeroTok) wr) ∧ ds.length ≤ k
/-- a token, and where it ends -/
def Tokened (kind : Int) (t : ByteArray) (n : Int) (k : Nat) (w : World) (e : Ending) (w' : World) : Prop := e = .returned (.tuple #[tokV kind t n, .int .i64 k]) ∧ Below w.heap.size w w'

theorem zero_size (w : World) : (w.alloc zeroTok).heap.size = w.heap.size + 1 := by simp
theorem quo_below {w wr w2 : World} (h : Below (w.heap.size + 1) (w.alloc zeroTok) wr) (h2 : Below wr.heap.size wr w2) : Below (w.heap.size + 1) (w.alloc zeroTok) w2 :=
  h.trans (h2.mono (by have := h.size; rw [zero_size] at this; exact this))
theorem tok_cells {w w2 : World} (h : Below (w.heap.size + 1) (w.alloc zeroTok) w2) :
    w2.cell? ⟨w.heap.size, 0, none⟩ = some (.int .i64 0) ∧ w2.cell? ⟨w.heap.size, 1, none⟩ = some (.string ⟨#[]⟩) ∧ w2.cell? ⟨w.heap.size, 2, none⟩ = some (.int .i64 0) ∧
    w2.frozen? ⟨w.heap.size, 0, none⟩ = false ∧ w2.frozen? ⟨w.heap.size, 1, none⟩ = false ∧ w2.frozen? ⟨w.heap.size, 2, none⟩ = false := by
  have hc : ∀ j, w2.cell? ⟨w.heap.size, j, none⟩ = (w.alloc zeroTok).cell? ⟨w.heap.size, j, none⟩ := fun j => h.cell (p := ⟨w.heap.size, j, none⟩) (Nat.lt_succ_self _)
  have hf : ∀ j, w2.frozen? ⟨w.heap.size, j, none⟩ = (w.alloc zeroTok).frozen? ⟨w.heap.size, j, none⟩ := fun j => h.frozen (p := ⟨w.heap.size, j, none⟩) (Nat.lt_succ_self _)
  rw [hc, hc, hc, hf, hf, hf]
  unfold zeroTok
  refine ⟨?_, ?_, ?_, ?_, ?_, ?_⟩
  · rw [World.cell?_alloc_mark]; rfl
  · rw [World.cell?_alloc_mark]; rfl
  · rw [World.cell?_alloc_mark]; rfl
  · rw [World.frozen?_alloc_mark]; rfl
  · rw [World.frozen?_alloc_mark]; rfl
  · rw [World.frozen?_alloc_mark]; rfl

theorem tok_below {w w2 : World} (h : Below (w.heap.size + 1) (w.alloc zeroTok) w2) (x y z : Value) :
    Below w.heap.size w (((w2.setCell ⟨w.heap.size, 0, none⟩ x).setCell ⟨w.heap.size, 1, none⟩ y).setCell ⟨w.heap.size, 2, none⟩ z) :=
  (((((Below.refl _ w).alloc (Nat.le_refl _) _).trans (h.mono (Nat.le_succ _))).setCell (Nat.le_refl _) _).setCell (Nat.le_refl _) _).setCell (Nat.le_refl _) _
theorem quo_size {w wr : World} (h : Below (w.heap.size + 1) (w.alloc zeroTok) wr) : w.heap.size + 1 ≤ wr.heap.size := by have := h.size; rw [zero_size] at this; exact this
theorem quo_next {w wr w3 : World} {o : Obj} {k : IntKind} {E : TypeId} {v v' : Value} {ds : List Int} {x : Int} (hown : wr.ownsRow (w.heap.size + 1) E 1 v ds.length (nums k ds)) (hbel : Below (w.heap.size + 1) (w.alloc zeroTok) wr)
    (hown3 : w3.ownsRow (w.heap.size + 1) E 1 v' (ds.length + 1) (nums k ds ++ [.int k x])) (hgrow : (wr.alloc o).grownBy w3 v.ownBlock) :
    w3.ownsRow (w.heap.size + 1) E 1 v' (ds ++ [x]).length (nums k (ds ++ [x])) ∧ Below (w.heap.size + 1) (w.alloc zeroTok) w3 := by
  refine ⟨?_, ?_⟩
  · rw [nums_app, List.length_append]; exact hown3
  · exact (hbel.alloc (quo_size hbel) o).grown hgrow (by have := quo_size hbel; simp; omega) (fun j hj => (hown.lt j hj).1)
theorem tok_ret {kind kind' n n' : Int} {t t' : ByteArray} {k k' : Int} (h1 : kind = kind') (h2 : t = t') (h3 : n = n') (h4 : k = k') : Ending.returned (.tuple #[tokV kind t n, .int .i64 k]) = .returned (.tuple #[tokV kind' t' n', .int .i64 k']) := by rw [h1, h2, h3, h4]
end Go.Proofs.YtgcmjkimiakibaaGreatDoor
