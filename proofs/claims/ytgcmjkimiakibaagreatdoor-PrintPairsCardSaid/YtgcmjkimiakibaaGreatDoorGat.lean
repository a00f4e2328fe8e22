/-
  The walk of the law Same, of any two lists of tokens.
-/
import Derived.Test.YtgcmjkimiakibaaGreatDoorGaq
import Derived.BigQuiet
import Derived.Deep.QuietTactic
import Derived.Test.YtgcmjkimiakibaaGreatDoorGas
import Derived.Test.YtgcmjkimiakibaaGreatDoorGaf
import Derived.Test.YtgcmjkimiakibaaGreatDoorGab
import Derived.Test.YtgcmjkimiakibaaGreatDoorGac
namespace Go.Proofs.YtgcmjkimiakibaaGreatDoor
open Go.RowKit

namespace Tk
theorem eq_of_tk {a b : List Tok} (h : a.length = b.length) (hg : ∀ j, j < a.length → tk a j = tk b j) : a = b := by
  apply List.ext_getElem h
  intro j h1 h2
  have := hg j h1
  rwa [tk_eq h1, tk_eq h2] at this
end Tk
set_option maxHeartbeats 4000000 in
set_option maxRecDepth 100000 in
theorem same_all (ts us : List Tk.Tok) (b : Bool) (hb : b = true ↔ ts = us) (A C : Option Addr) (ca cb : Nat) (w : World) (hm : ts.length ≤ 65536) (_hm2 : us.length ≤ 65536) (hA : Ts w w.heap.size A ts) (hC : Ts w w.heap.size C us) :
    Calls Tryz.prog 11 #[.slice A ts.length ca, .slice C us.length cb] w fun e w' => e = .returned (.bool b) ∧ Below w.heap.size w w' := by
  have HA := Lib.hid hA
  have HC := Lib.hid hC
  clear hA hC
  by_cases hl : ts.length = us.length
  · have HBb := Lib.hid hb
    have HL := Lib.hid hl
    clear hb
    rw [← hl]
    have hlu : us.length = ts.length := hl.symm
    clear _hm2
    go_enter Tryz.func11, Tryz.ntmps11
    clear hl hlu
    go_wp2_with fail
    go_loopw [13] (fun v13 wr => ∃ k : Nat, k ≤ ts.length ∧ v13 = .int .i64 k ∧ Hid (∀ j, j < k → Tk.tk ts j = Tk.tk us j) ∧ Hid (Below w.heap.size w wr)) (fun v13 _ => ts.length - (RowKit.intOf v13).toNat)
    case atStart => exact ⟨0, Nat.zero_le _, rfl, Lib.hid (fun j hj => by omega), Lib.hid (Below.refl _ _)⟩
    case round =>
      obtain ⟨k, hk, rfl, HK, HB⟩ := hrel
      by_cases hlt : k < ts.length
      · obtain ⟨b1, off, rfl, _, hp⟩ := HA.out.next HB.out (by omega)
        obtain ⟨b2, off2, rfl, _, hp2⟩ := HC.out.next HB.out (by rw [← HL.out]; omega)
        obtain ⟨p0, p1, p2⟩ := hp k hlt
        obtain ⟨q0, q1, q2⟩ := hp2 k (by rw [← HL.out]; exact hlt)
        clear hp hp2
        have HY : Hid (Tk.tk ts k = Tk.tk us k → ∀ j, j < k + 1 → Tk.tk ts j = Tk.tk us j) := Lib.hid (fun h j hj => by
          by_cases e : j = k
          · subst e; exact h
          · exact HK.out j (by omega))
        have HN : Hid (Tk.tk ts k ≠ Tk.tk us k → b = false) := Lib.hid (fun h => by
          cases b with
          | false => rfl
          | true =>
            have e := HBb.out.1 rfl
            rw [e] at h
            exact absurd rfl h)
        generalize Tk.tk ts k = t at *
        generalize Tk.tk us k = u at *
        by_cases he : t = u
        · subst he
          have HV := Lib.hid (HY.out rfl)
          clear HY HN
          obtain ⟨kd, tx, nv⟩ := t
          simp only at p0 p1 p2 q0 q1 q2
          go_wp2_with fail
          go_quiet (fail)
          go_wp2_with fail
          go_roundw
          case rel => exact ⟨k + 1, by omega, by go_num, HV, Lib.hid (below_drewN HB.out _)⟩
          case measure => simp [RowKit.intOf]; omega
        · have HV : Hid (b = false) := Lib.hid (HN.out he)
          obtain ⟨kd, tx, nv⟩ := t
          obtain ⟨kd', tx', nv'⟩ := u
          simp only at p0 p1 p2 q0 q1 q2
          have HE : Hid (¬ (kd = kd' ∧ tx = tx' ∧ nv = nv')) := Lib.hid (fun h => he (by rw [h.1, h.2.1, h.2.2]))
          clear HY HN he
          by_cases e1 : kd = kd'
          · subst e1
            by_cases e2 : nv = nv'
            · subst e2
              have e3 : ¬ tx = tx' := fun h => HE.out ⟨rfl, h, rfl⟩
              have e5 : (tx.toList == tx'.toList) = false := by
                rw [beq_eq_false_iff_ne]
                intro h
                rw [Lib.toList_data, Lib.toList_data] at h
                exact e3 (ByteArray.ext (Array.ext' h))
              go_wp2_with fail
              go_quiet (fail)
              go_wp2_with fail
              go_ret
              exact ⟨by rw [HV.out]; rfl, below_drewN HB.out _⟩
            · have e3 : (nv == nv') = false := Ru.eq_f e2
              go_wp2_with fail
              go_quiet (fail)
              go_wp2_with fail
              go_ret
              exact ⟨by rw [HV.out]; rfl, below_drewN HB.out _⟩
          · have e3 : (kd == kd') = false := Ru.eq_f e1
            go_wp2_with fail
            go_quiet (fail)
            go_wp2_with fail
            go_ret
            exact ⟨by rw [HV.out]; rfl, below_drewN HB.out _⟩
      · have HV : Hid (b = true) := Lib.hid (HBb.out.2 (Tk.eq_of_tk HL.out (fun j hj => HK.out j (by omega))))
        go_wp2_with fail
        go_ret
        exact ⟨by rw [HV.out]; rfl, HB.out⟩
  · obtain rfl : b = false := by
      cases b with
      | false => rfl
      | true => exact absurd (congrArg List.length (hb.1 rfl)) hl
    have hne : ((ts.length : Int) != (us.length : Int)) = true := Ru.ne_t (by omega)
    have hne' : (ts.length != us.length) = true := by rw [bne_iff_ne]; exact hl
    clear hb hl
    go_enter Tryz.func11, Tryz.ntmps11
    go_wp2_with fail
    go_ret
    exact ⟨rfl, Below.refl _ _⟩
end Go.Proofs.YtgcmjkimiakibaaGreatDoor

/-
  Plain: how long the text of tokens may be. No run of the program in this text.
-/
namespace Go.Proofs.YtgcmjkimiakibaaGreatDoor
namespace Pr
open Ru Tk
open Go.Lib (encodeRuneZ)

theorem hexF_two {c : Int} (h : c < 256) (f : Nat) : (hexF (f + 1 + 1) c).length ≤ 2 := by
  unfold hexF
  split
  · simp
  · unfold hexF
    rw [if_pos (by omega)]
    simp
theorem escC_four {c : Int} (h : c < 128) : (escC c).length ≤ 4 := by
  have := hexF_two (c := c) (by omega) 4
  unfold escC hexC
  simp
  omega
theorem enc_one {c : Int} : 1 ≤ (encodeRuneZ c).length := (Go.Lib.encodeRuneZ_length c).1
theorem must_low {dim : Bool} {l : List Int} {i : Nat} (hi : i < l.length) (h : Is (g l i)) (hm : must dim l i = true) : g l i < 128 := by
  by_cases h0 : g l i < 128
  · exact h0
  · exfalso
    have hw : witB (g l i) = true := by
      unfold Is at h
      unfold witB begB
      simp
      omega
    unfold must at hm
    rw [hw] at hm
    simp only [Bool.or_eq_true, Bool.and_eq_true, decide_eq_true_eq, Bool.not_true, Bool.false_eq_true, false_or] at hm
    rcases hm with hm | hm | hm
    · omega
    · have : i = 0 := by rw [hm] at hi; simp at hi; omega
      subst this
      rw [hm] at h0
      exact h0 (by decide)
    · omega
theorem piece_four {dim : Bool} {l : List Int} {i : Nat} (hi : i < l.length) (h : Is (g l i)) : (wr (piece dim l i)).length ≤ 4 * (encodeRuneZ (g l i)).length := by
  have h1 := enc_one (c := g l i)
  unfold piece
  cases hm : must dim l i
  · rw [if_neg (by simp), wr_cons, wr_nil, List.append_nil]; omega
  · rw [if_pos rfl, escC_wr (Is_lt h).1]
    have := escC_four (must_low hi h hm)
    omega
theorem nmT_four (dim : Bool) (l : List Int) (h : ∀ c ∈ l, Is c) : ∀ k, k ≤ l.length → (wr (nmT dim l k)).length ≤ 4 * (wr (l.take k)).length
  | 0, _ => by rw [nmT_zero, wr_nil]; simp
  | k + 1, hk => by
    have ih := nmT_four dim l h k (by omega)
    have hi : Is (g l k) := by rw [g_eq (by omega)]; exact h _ (List.getElem_mem _)
    have hp := piece_four (dim := dim) (l := l) (i := k) (by omega) hi
    rw [nmT_succ, wr_app, List.length_append, take_g (by omega), wr_app, List.length_append, wr_cons, wr_nil, List.append_nil]
    omega
theorem nm_four (dim : Bool) {l : List Int} (h : ∀ c ∈ l, Is c) : (wr (nm dim l)).length ≤ 4 * (wr l).length := by
  have := nmT_four dim l h l.length (Nat.le_refl _)
  rwa [List.take_length] at this
theorem enq_four : ∀ {l : List Int}, (∀ c ∈ l, Is c) → (wr (enq l)).length ≤ 4 * (wr l).length
  | [], _ => by unfold enq; simp [wr_nil]
  | c :: l, h => by
    have ih := enq_four (l := l) (fun d hd => h d (by simp [hd]))
    have e : enq (c :: l) = qC c ++ enq l := rfl
    have h1 := enc_one (c := c)
    have hi := h c (by simp)
    rw [e, wr_app, List.length_append, wr_cons, List.length_append]
    have : (wr (qC c)).length ≤ 4 * (encodeRuneZ c).length := by
      unfold qC
      split
      · rename_i hs
        rw [escC_wr (Is_lt hi).1]
        have := escC_four (c := c) (by unfold spec at hs; omega)
        omega
      · rw [wr_cons, wr_nil, List.append_nil]; omega
    omega
theorem tokC_four {t : PT} (h : One t) : (wr (tokC t)).length ≤ 4 * (wr t.2.1).length + 44 := by
  obtain ⟨k, l, n⟩ := t
  obtain ⟨ho, hk⟩ := h
  simp only at ho hk
  have his : ∀ c ∈ l, Is c := fun c hc => (ho c hc).1
  have hen := enq_four his
  have hnc : (wr (nC n)).length ≤ 40 := by
    rw [wr_asc' (fun c hc => by have := nC_chr n c hc; omega)]
    exact nC_len n
  have a := nm_four false his
  have b := nm_four true his
  unfold Kd at hk
  unfold tokC
  simp only
  rcases hk with ⟨rfl, _⟩ | ⟨rfl | rfl | rfl | rfl, _⟩ | ⟨rfl | rfl, _⟩ | ⟨rfl | rfl, _⟩ | ⟨rfl, _⟩ | ⟨rfl, _⟩ | ⟨rfl, _⟩ | ⟨rfl, _⟩ | ⟨rfl | rfl | rfl, _⟩
  · show (wr [10]).length ≤ _; simp [show wr [10] = [10] from rfl]
  · show (wr (nm false l)).length ≤ _; omega
  · show (wr (nm false l ++ [40])).length ≤ _; rw [wr_app, List.length_append, show wr [40] = [40] from rfl]; simp; omega
  · show (wr ([64] ++ nm false l)).length ≤ _; rw [wr_app, List.length_append, show wr [64] = [64] from rfl]; simp; omega
  · show (wr ([35] ++ nm false l)).length ≤ _; rw [wr_app, List.length_append, show wr [35] = [35] from rfl]; simp; omega
  · show (wr ([34] ++ (enq l ++ [34]))).length ≤ _; rw [wr_app, wr_app, List.length_append, List.length_append, show wr [34] = [34] from rfl]; simp; omega
  · show (wr ([34] ++ enq l)).length ≤ _; rw [wr_app, List.length_append, show wr [34] = [34] from rfl]; simp; omega
  · show (wr (nC n)).length ≤ _; omega
  · show (wr (nC n ++ [37])).length ≤ _; rw [wr_app, List.length_append, show wr [37] = [37] from rfl]; simp; omega
  · show (wr (nC n ++ nm true l)).length ≤ _; rw [wr_app, List.length_append]; omega
  · show (wr l).length ≤ _; omega
  · show (wr l).length ≤ _; omega
  · show (wr l).length ≤ _; omega
  · show (wr [58]).length ≤ _; simp [show wr [58] = [58] from rfl]
  · show (wr [59]).length ≤ _; simp [show wr [59] = [59] from rfl]
  · show (wr [44]).length ≤ _; simp [show wr [44] = [44] from rfl]
theorem sep_len (a : Option Int) (b : Int) : (wr (sep a b)).length ≤ 4 := by
  unfold sep
  split
  · simp [wr_nil]
  · split
    · simp [wr_nil]
    · show (wr [47, 42, 42, 47]).length ≤ 4; decide
theorem prL_four : ∀ (ps : List PT) (a : Option Int), (∀ t ∈ ps, One t) → (∀ t ∈ ps, (wr t.2.1).length ≤ 100) → (wr (prL a ps)).length ≤ 448 * ps.length
  | [], a, _, _ => by unfold prL; simp [wr_nil]
  | t :: r, a, h, hs => by
    have ih := prL_four r (some t.1) (fun u hu => h u (by simp [hu])) (fun u hu => hs u (by simp [hu]))
    have h1 := tokC_four (h t (by simp))
    have h2 := hs t (by simp)
    have h3 := sep_len a t.1
    show (wr (sep a t.1 ++ (tokC t ++ prL (some t.1) r))).length ≤ _
    rw [wr_app, wr_app, List.length_append, List.length_append, List.length_cons]
    omega
end Pr
end Go.Proofs.YtgcmjkimiakibaaGreatDoor

/-
  Plain: how the reference tells a text's characters. No run of the program in this text.
-/
namespace Go.Proofs.YtgcmjkimiakibaaGreatDoor
namespace Pr
open Ru Tk
open Go.Lib (encodeRuneZ)

/-- how many bytes a character has that begins so -/
def refN (a : Int) : Nat := if 240 ≤ a then 4 else if 224 ≤ a then 3 else if 128 ≤ a then 2 else 1
/-- which character that is -/
def refC (l : List Int) : Int :=
  if 240 ≤ g l 0 then (((g l 0 - 240) * 64 + g l 1 - 128) * 64 + g l 2 - 128) * 64 + g l 3 - 128
  else if 224 ≤ g l 0 then ((g l 0 - 224) * 64 + g l 1 - 128) * 64 + g l 2 - 128
  else if 128 ≤ g l 0 then (g l 0 - 192) * 64 + g l 1 - 128
  else g l 0
theorem enc_ref {d : Int} (h : Is d) (r : List Int) : refN (g (encodeRuneZ d ++ r) 0) = (encodeRuneZ d).length ∧ refC (encodeRuneZ d ++ r) = d := by
  unfold Is at h
  obtain ⟨L, hL⟩ : ∃ L, L = encodeRuneZ d ++ r := ⟨_, rfl⟩
  rw [← hL]
  by_cases c1 : d ≤ 127
  · rw [Lib.encodeRuneZ_one h.1 c1] at hL ⊢
    have h0 : g L 0 = d := by rw [hL]; rfl
    unfold refN refC
    rw [h0, if_neg (by omega), if_neg (by omega), if_neg (by omega), if_neg (by omega), if_neg (by omega), if_neg (by omega)]
    exact ⟨rfl, rfl⟩
  · by_cases c2 : d ≤ 2047
    · rw [Lib.encodeRuneZ_two (by omega) c2] at hL ⊢
      have h0 : g L 0 = 192 + d / 64 := by rw [hL]; rfl
      have h1 : g L 1 = 128 + d % 64 := by rw [hL]; rfl
      unfold refN refC
      rw [h0, h1, if_neg (by omega), if_neg (by omega), if_pos (by omega), if_neg (by omega), if_neg (by omega), if_pos (by omega)]
      exact ⟨rfl, by omega⟩
    · by_cases c3 : d ≤ 65535
      · rw [Lib.encodeRuneZ_three (by omega)] at hL ⊢
        have h0 : g L 0 = 224 + d / 4096 := by rw [hL]; rfl
        have h1 : g L 1 = 128 + d / 64 % 64 := by rw [hL]; rfl
        have h2 : g L 2 = 128 + d % 64 := by rw [hL]; rfl
        unfold refN refC
        rw [h0, h1, h2, if_neg (by omega), if_pos (by omega), if_neg (by omega), if_pos (by omega)]
        exact ⟨rfl, by omega⟩
      · rw [Lib.encodeRuneZ_four (by omega) (by omega)] at hL ⊢
        have h0 : g L 0 = 240 + d / 262144 := by rw [hL]; rfl
        have h1 : g L 1 = 128 + d / 4096 % 64 := by rw [hL]; rfl
        have h2 : g L 2 = 128 + d / 64 % 64 := by rw [hL]; rfl
        have h3 : g L 3 = 128 + d % 64 := by rw [hL]; rfl
        unfold refN refC
        rw [h0, h1, h2, h3, if_pos (by omega), if_pos (by omega)]
        exact ⟨rfl, by omega⟩
/-- the characters so far, and the bytes that are left -/
def Chars (t : ByteArray) (ds : List Int) (p : Nat) : Prop := p ≤ t.size ∧ (bs t).take p = wr ds ∧ ∀ c ∈ ds, Is c
theorem Chars.start (t : ByteArray) : Chars t [] 0 := ⟨by omega, by rw [List.take_zero]; rfl, fun c hc => by cases hc⟩
theorem Chars.bytes {t : ByteArray} {ds : List Int} {p : Nat} (h : Chars t ds p) : bs t = wr ds ++ (bs t).drop p := by rw [← h.2.1, List.take_append_drop]
/-- one that is right -/
theorem Chars.next {t : ByteArray} {ds : List Int} {p n : Nat} {c : Int} (h : Chars t ds p) (hc : Is c) (hn : n = (encodeRuneZ c).length) (he : encodeRuneZ c = ((bs t).drop p).take n) : Chars t (ds ++ [c]) (p + n) := by
  have hl := congrArg List.length he
  rw [List.length_take, List.length_drop, bs_len] at hl
  refine ⟨by have := h.1; have := enc_pos c; omega, ?_, fun x hx => ?_⟩
  · rw [List.take_add, h.2.1, wr_app, ← he]
    rw [wr_cons, wr_nil, List.append_nil]
  · rcases List.mem_append.1 hx with hx | hx
    · exact h.2.2 x hx
    · rw [List.mem_singleton] at hx; subst hx; exact hc
/-- .. that is none: the text is of no characters -/
theorem Chars.none {t : ByteArray} {ds : List Int} {p : Nat} (h : Chars t ds p) (hp : p < t.size) (hno : ∀ d r, Is d → (bs t).drop p ≠ encodeRuneZ d ++ r) : ¬ ∃ cs, Txt t cs := by
  rintro ⟨cs, hx⟩
  have e : wr cs = wr ds ++ (bs t).drop p := hx.1.symm.trans h.bytes
  obtain ⟨cs', rfl, e2⟩ := wr_pre ds cs _ h.2.2 hx.2 e.symm
  cases cs' with
  | nil =>
    have hl := congrArg List.length e2
    rw [List.length_drop, bs_len, wr_nil] at hl
    simp at hl
    omega
  | cons d r => exact hno d (wr r) (hx.2 d (by simp)) (by rw [e2, wr_cons])
theorem Chars.done {t : ByteArray} {ds : List Int} {p : Nat} (h : Chars t ds p) (hp : ¬ p < t.size) : Txt t ds := by
  refine ⟨?_, h.2.2⟩
  have := h.bytes
  rw [List.drop_eq_nil_of_le (by rw [bs_len]; omega), List.append_nil] at this
  exact this
/-- what the reference's test finds -/
theorem ref_fail {L : List Int} (h : L.length < refN (g L 0) ∨ refC L < 0 ∨ isB (refC L) = false ∨ encodeRuneZ (refC L) ≠ L.take (refN (g L 0))) : ∀ d r, Is d → L ≠ encodeRuneZ d ++ r := by
  rintro d r hd rfl
  obtain ⟨e1, e2⟩ := enc_ref hd r
  rw [e1, e2] at h
  rcases h with h | h | h | h
  · rw [List.length_append] at h; omega
  · have := (Is_lt hd).1; omega
  · rw [Is_isB hd] at h; cases h
  · exact h (by rw [List.take_left])
theorem ref_ok {L : List Int} (he : encodeRuneZ (refC L) = L.take (refN (g L 0))) (hn : refN (g L 0) ≤ L.length) : refN (g L 0) = (encodeRuneZ (refC L)).length := by
  rw [he, List.length_take]; omega
end Pr
end Go.Proofs.YtgcmjkimiakibaaGreatDoor

/-
  Walks of the small functions of the reference: what a character is.
-/
namespace Go.Proofs.YtgcmjkimiakibaaGreatDoor
open Go.RowKit

/-! ### the reference -/
set_option maxHeartbeats 400000 in
theorem ris_any (c : Int) (w : World) :
    Calls Tryz.prog 62 #[.int .i64 c] w fun e w' => e = .returned (.bool (Ru.isB c)) ∧ w = w' := by
  by_cases a1 : 0 ≤ c <;> by_cases a2 : c ≤ 1114111 <;> by_cases a3 : c < 55296 <;> by_cases a4 : 57343 < c
  all_goals try omega
  all_goals
    go_enter Tryz.func62, Tryz.ntmps62
    go_wp2_with fail
    go_ret
    exact ⟨ret_bool (by unfold Ru.isB; simp; try omega), rfl⟩

set_option maxHeartbeats 800000 in
theorem rbegins_any (c : Int) (w : World) :
    Calls Tryz.prog 28 #[.int .i64 c] w fun e w' => e = .returned (.bool (Ru.begB c)) ∧ w = w' := by
  by_cases b1 : c = 95
  · subst b1
    go_enter Tryz.func28, Tryz.ntmps28
    go_wp2_with fail
    go_ret
    exact ⟨rfl, rfl⟩
  · have e1 := Ru.eq_f b1
    by_cases b2 : 128 ≤ c
    · go_enter Tryz.func28, Tryz.ntmps28
      go_wp2_with (go_at_call 62; refine (ris_any _ _).mono ?_; rintro e w' ⟨rfl, rfl⟩)
      go_ret
      exact ⟨ret_bool (by unfold Ru.begB Ru.isB; rw [Bool.eq_iff_iff]; simp; omega), rfl⟩
    · by_cases a1 : 97 ≤ c <;> by_cases a2 : c ≤ 122 <;> by_cases a3 : 65 ≤ c <;> by_cases a4 : c ≤ 90
      all_goals try omega
      all_goals
        go_enter Tryz.func28, Tryz.ntmps28
        go_wp2_with fail
        go_ret
        exact ⟨ret_bool (by unfold Ru.begB; simp; try omega), rfl⟩

end Go.Proofs.YtgcmjkimiakibaaGreatDoor

/-
  The walks of the reference's Bytes and Write.
-/
namespace Go.Proofs.YtgcmjkimiakibaaGreatDoor
open Go.RowKit

/-- a slice that reads as numbers, in what is new -/
def Fresh (k : IntKind) (l : List Int) (w : World) (e : Ending) (w' : World) : Prop :=
  ∃ (b cap : Nat), e = .returned (.slice (some ⟨b, 0, none⟩) l.length cap) ∧ (∀ j u, (nums k l)[j]? = some u → w'.cell? ((⟨b, 0, none⟩ : Addr).add j) = some u) ∧ Below w.heap.size w w'
theorem fresh_made {w : World} {k : IntKind} {l : List Int} {E : TypeId} (v : Ending) (h : v = .returned (.slice (some ⟨w.heap.size, 0, none⟩) l.length l.length)) : Fresh k l w v (w.alloc (.cells (nums k l).toArray E)) := by
  refine ⟨w.heap.size, l.length, h, fun j u hj => ?_, (Below.refl _ _).alloc (Nat.le_refl _) _⟩
  rw [Addr.add_lit, cell_of_row _ _ _ (nums k l).toArray E (0, 0) (heap_alloc_new w _)]
  simpa using hj

set_option maxHeartbeats 1000000 in
theorem bytes_any (c : Int) (w : World) (h : Ru.Is c) :
    Calls Tryz.prog 63 #[.int .i64 c] w (Fresh .u8 (Lib.encodeRuneZ c) w) := by
  unfold Ru.Is at h
  by_cases h1 : c < 128
  · have e := Lib.encodeRuneZ_one h.1 (by omega : c ≤ 127)
    rw [e]
    have q0 : 0 ≤ c := h.1
    clear e h
    go_enter Tryz.func63, Tryz.ntmps63
    go_wp2_with fail
    go_ret
    exact fresh_made _ rfl
  · by_cases h2 : c < 2048
    · have e := Lib.encodeRuneZ_two (by omega : 128 ≤ c) (by omega)
      rw [e]
      clear e h
      go_enter Tryz.func63, Tryz.ntmps63
      go_wp2_with fail
      go_ret
      exact fresh_made _ rfl
    · by_cases h3 : c < 65536
      · have e := Lib.encodeRuneZ_three (r := c) (by omega)
        rw [e]
        clear e h
        go_enter Tryz.func63, Tryz.ntmps63
        go_wp2_with fail
        go_ret
        exact fresh_made _ rfl
      · have e := Lib.encodeRuneZ_four (r := c) (by omega) (by omega)
        rw [e]
        have q1 : c ≤ 1114111 := by omega
        clear e h
        go_enter Tryz.func63, Tryz.ntmps63
        go_wp2_with fail
        go_ret
        exact fresh_made _ rfl
end Go.Proofs.YtgcmjkimiakibaaGreatDoor
