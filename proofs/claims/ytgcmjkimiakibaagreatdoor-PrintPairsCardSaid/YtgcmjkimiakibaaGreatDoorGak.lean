/-
  The walks of print's leads, spell, enquote.
-/
import Derived.Test.YtgcmjkimiakibaaGreatDoorGaj
import Derived.BigGuard
import Derived.Deep.LoopGhost
import Derived.WalkSpells
import Derived.WalkLawsBesides
namespace Go.Proofs.YtgcmjkimiakibaaGreatDoor
open Go.RowKit

namespace Pr
open Ru Tk
/-- where the k-th character's bytes begin -/
def pos (cs : List Int) (k : Nat) : Nat := (wr (cs.take k)).length
theorem pos_zero (cs : List Int) : pos cs 0 = 0 := rfl
theorem pos_all (cs : List Int) : pos cs cs.length = (wr cs).length := by unfold pos; rw [List.take_length]
theorem pos_succ {cs : List Int} {k : Nat} (h : k < cs.length) : pos cs (k + 1) = pos cs k + (Lib.encodeRuneZ (g cs k)).length := by
  unfold pos
  rw [take_g h, wr_app, List.length_append, show wr [g cs k] = Lib.encodeRuneZ (g cs k) ++ wr [] from rfl, wr_nil, List.append_nil]
theorem pos_ge (cs : List Int) {k : Nat} (h : k ≤ cs.length) : k ≤ pos cs k := by
  have := wr_len_ge (cs.take k)
  rw [List.length_take] at this
  unfold pos; omega
theorem drop_pos {t : ByteArray} {cs : List Int} (h : Txt t cs) {k : Nat} (hk : k < cs.length) : (bs t).drop (pos cs k) = Lib.encodeRuneZ (g cs k) ++ wr (cs.drop (k + 1)) := by
  have e : cs = cs.take k ++ (g cs k :: cs.drop (k + 1)) := by rw [g_eq hk, ← List.drop_eq_getElem_cons hk, List.take_append_drop]
  rw [h.1]
  conv => lhs; arg 2; rw [e]
  rw [wr_app, wr_cons]
  unfold pos
  rw [List.drop_left]
theorem pos_lt {t : ByteArray} {cs : List Int} (h : Txt t cs) {k : Nat} (hk : k < cs.length) : pos cs k < t.size ∧ pos cs k ≤ t.size := by
  have h1 := drop_pos h hk
  have h2 := congrArg List.length h1
  have := enc_pos (g cs k)
  rw [List.length_drop, bs_len, List.length_append] at h2
  omega
theorem pos_end {t : ByteArray} {cs : List Int} (h : Txt t cs) : pos cs cs.length = t.size := by rw [pos_all, txt_size h]
/-- the first character, or the second one behind a - -/
def ld (cs : List Int) (k : Nat) : Bool := decide (k = 0) || (decide (k = 1) && decide (g cs 0 = 45))
theorem first_byte {t : ByteArray} {cs : List Int} (h : Txt t cs) (h0 : 0 < cs.length) (hp : pos cs 1 = 1) : g (bs t) 0 = g cs 0 := by
  have e := drop_pos h h0
  rw [pos_zero, List.drop_zero] at e
  have e1 : pos cs 1 = pos cs 0 + _ := pos_succ h0
  rw [pos_zero] at e1
  have hl : (Lib.encodeRuneZ (g cs 0)).length = 1 := by omega
  rw [e]
  have his := h.2 _ (by rw [g_eq h0]; exact List.getElem_mem h0 : g cs 0 ∈ cs)
  unfold Is at his
  by_cases c1 : g cs 0 ≤ 127
  · rw [Lib.encodeRuneZ_one his.1 c1]; rfl
  · exfalso
    by_cases c2 : g cs 0 ≤ 2047
    · rw [Lib.encodeRuneZ_two (by omega) c2] at hl; simp at hl
    · by_cases c3 : g cs 0 ≤ 65535
      · rw [Lib.encodeRuneZ_three (by omega)] at hl; simp at hl
      · rw [Lib.encodeRuneZ_four (by omega) (by omega)] at hl; simp at hl
theorem dash_one {cs : List Int} (h0 : 0 < cs.length) (h : g cs 0 = 45) : pos cs 1 = 1 := by
  have e1 : pos cs 1 = pos cs 0 + _ := pos_succ h0
  rw [e1, h, pos_zero]; rfl
end Pr

set_option maxHeartbeats 1000000 in
set_option maxRecDepth 100000 in
theorem leads_any (t : ByteArray) (cs : List Int) (h : Pr.Txt t cs) (k : Nat) (hk : k < cs.length) (p : Int) (hp : p = (Pr.pos cs k : Int)) (w : World) :
    Calls Tryz.prog 78 #[.string t, .int .i64 p] w fun e w' => e = .returned (.bool (Pr.ld cs k)) ∧ w = w' := by
  have hg := Pr.pos_ge cs (Nat.le_of_lt hk)
  by_cases c0 : k = 0
  · subst c0
    have hp0 : p = 0 := by rw [hp, Pr.pos_zero]; rfl
    subst hp0
    clear hp
    go_enter Tryz.func78, Tryz.ntmps78
    go_wp2_with fail
    go_ret
    exact ⟨rfl, rfl⟩
  · have hcs : 0 < cs.length := by omega
    have hts := (Pr.pos_lt h hcs).1
    rw [Pr.pos_zero] at hts
    by_cases c1 : p = 1
    · subst c1
      have hk1 : k = 1 := by omega
      subst hk1
      have hf := Pr.first_byte h hcs (by omega)
      rw [Ru.bs_get t 0 hts] at hf
      clear hp hg
      by_cases c45 : Ru.g cs 0 = 45
      · have e := Ru.eq_t (show (t[0].toNat : Int) = 45 by omega)
        have er : Pr.ld cs 1 = true := by unfold Pr.ld; rw [c45]; rfl
        rw [er]
        clear hf c45 er
        go_enter Tryz.func78, Tryz.ntmps78
        go_wp2_with fail
        go_ret
        exact ⟨rfl, rfl⟩
      · have e := Ru.eq_f (show ¬ (t[0].toNat : Int) = 45 by omega)
        have er : Pr.ld cs 1 = false := by unfold Pr.ld; rw [decide_eq_false c45]; rfl
        rw [er]
        clear hf c45 er
        go_enter Tryz.func78, Tryz.ntmps78
        go_wp2_with fail
        go_ret
        exact ⟨rfl, rfl⟩
    · have er : Pr.ld cs k = false := by
        unfold Pr.ld
        rw [decide_eq_false c0, Bool.false_or, Bool.and_eq_false_iff, decide_eq_false_iff_not, decide_eq_false_iff_not]
        by_cases c2 : k = 1
        · right
          intro h45
          subst c2
          exact c1 (by rw [hp, Pr.dash_one hcs h45]; rfl)
        · exact .inl c2
      have e0 := Ru.eq_f (show ¬ p = 0 by omega)
      have e1 := Ru.eq_f c1
      rw [er]
      clear er hp
      go_enter Tryz.func78, Tryz.ntmps78
      go_wp2_with fail
      go_ret
      exact ⟨rfl, rfl⟩

namespace Pr
open Ru Tk
theorem nmT_wr {dim : Bool} {cs : List Int} {k : Nat} : wr (nmT dim cs (k + 1)) = wr (nmT dim cs k) ++ wr (piece dim cs k) := by rw [nmT_succ, wr_app]
theorem piece_len (dim : Bool) (cs : List Int) (k : Nat) (h : Is (g cs k)) : (wr (piece dim cs k)).length ≤ 8 := by
  unfold piece
  split
  · rw [escC_wr (Is_lt h).1]; exact escC_len _
  · have := (Lib.encodeRuneZ_length (g cs k)).2
    rw [wr_cons, wr_nil, List.append_nil]; omega
theorem nmT_len (dim : Bool) (cs : List Int) (h : ∀ c ∈ cs, Is c) : ∀ k, k ≤ cs.length → (wr (nmT dim cs k)).length ≤ 8 * k
  | 0, _ => by simp [nmT_zero, wr_nil]
  | k + 1, hk => by
    have := nmT_len dim cs h k (by omega)
    have := piece_len dim cs k (by rw [g_eq (by omega)]; exact h _ (List.getElem_mem _))
    rw [nmT_wr, List.length_append]; omega
end Pr
theorem dash_test {t : ByteArray} {cs : List Int} (h : Pr.Txt t cs) : (t.toList == [45]) = decide (cs = [45]) := by
  rw [Bool.eq_iff_iff, beq_iff_eq, decide_eq_true_iff, Lib.toList_data]
  constructor
  · intro e
    have e2 : Ru.bs t = Ru.wr [45] := by unfold Ru.bs; rw [e]; rfl
    exact Pr.wr_inj h.2 (fun c hc => by rw [List.mem_singleton] at hc; subst hc; unfold Ru.Is; omega) (h.1.symm.trans e2)
  · intro e
    subst e
    have e2 : Ru.bs t = Ru.bs ⟨#[45]⟩ := h.1
    have e3 := Pr.bs_inj e2
    rw [e3]
theorem piece_esc {dim : Bool} {cs : List Int} {k : Nat} (hi : Ru.Is (Ru.g cs k)) (h : Pr.must dim cs k = true) : Ru.wr (Pr.piece dim cs k) = Pr.escC (Ru.g cs k) := by
  unfold Pr.piece
  rw [if_pos h, escC_wr (Pr.Is_lt hi).1]
theorem piece_raw {dim : Bool} {cs : List Int} {k : Nat} (h : Pr.must dim cs k = false) : Ru.wr (Pr.piece dim cs k) = Lib.encodeRuneZ (Ru.g cs k) := by
  unfold Pr.piece
  rw [if_neg (by rw [h]; decide), Pr.wr_cons, Pr.wr_nil, List.append_nil]
/-- a builder's text -/
theorem string_any (b : Nat) (cs : List Int) (w : World) (h : Bu w b (Ru.wr cs)) :
    Calls Tryz.prog 24 #[.pointer (some ⟨b, 0, none⟩)] w fun e w' => e = .returned (.string (Tk.str cs)) ∧ Bw b w w' := by
  have hl : Lib.byteCells ((Ru.wr cs).map fun c => UInt8.ofNat c.toNat) = nums .u8 (Ru.wr cs) := by
    unfold Lib.byteCells nums
    rw [List.map_map]
    apply List.map_congr_left
    intro x hx
    have := Ru.wr_by cs x hx
    simp only [Function.comp]
    rw [UInt8.toNat_ofNat', show ((x.toNat % 2 ^ 8 : Nat) : Int) = x by omega]
  refine (Tryz.Builder_String_any_k b b _ w (by rw [hl]; exact h) (Nat.le_of_lt h.lt)).mono ?_
  rintro e w' ⟨rfl, _, hb, hk⟩
  exact ⟨rfl, hb, hk⟩
/-- at a character of a text that a builder takes -/
def SpAt (dim : Bool) (t : ByteArray) (cs : List Int) (w : World) (r : Nat) (wr : World) : Prop :=
  ∃ k, k ≤ cs.length ∧ cs.length - k ≤ r ∧ Hid (Bu wr w.heap.size (Ru.wr (Pr.nmT dim cs k))) ∧ Hid (wr.heap[w.heap.size + 1]? = some (.stringIter t (Pr.pos cs k))) ∧ Hid (Below w.heap.size w wr)
theorem iter_start (w : World) (t : ByteArray) : ((w.alloc (.cells #[.pointer none, .slice none 0 0] 52)).iter t 0).heap[w.heap.size + 1]? = some (.stringIter t 0) := by
  have := World.iter_heap (w.alloc (.cells #[.pointer none, .slice none 0 0] 52)) t 0
  rw [show (w.alloc (.cells #[.pointer none, .slice none 0 0] 52)).heap.size = w.heap.size + 1 by simp] at this
  exact this
set_option maxHeartbeats 4000000 in
set_option maxRecDepth 100000 in
theorem spell_any (dim : Bool) (t : ByteArray) (cs : List Int) (h : Pr.Txt t cs) (hm : t.size ≤ 10000) (w : World) (hT : PTab w.heap.size w) :
    Calls Tryz.prog 48 #[.string t, .bool dim] w fun e w' => e = .returned (.string (Tk.str (Pr.nm dim cs))) ∧ Below w.heap.size w w' := by
  have H := Lib.hid h
  have HT := Lib.hid hT
  have hcs : cs.length ≤ 10000 := by
    have := Pr.wr_len_ge cs
    rw [← Pr.txt_size h] at this
    omega
  clear h hT
  go_enter Tryz.func48, Tryz.ntmps48
  go_wp2_with fail
  go_loopg [] (cs.length + 1) (SpAt dim t cs w)
  case atStart => exact ⟨0, by omega, by omega, Lib.hid ((Bu.new w).alloc _), Lib.hid (iter_start w t), Lib.hid (((Below.refl _ _).alloc (Nat.le_refl _) _).alloc (by simp) _)⟩
  case round =>
    obtain ⟨k, hk, hr, HBu, HI, HB⟩ := hrel
    by_cases hlt : k < cs.length
    · obtain ⟨hp1, hp2⟩ := Pr.pos_lt H.out hlt
      have his := H.out.2 _ (by rw [Ru.g_eq hlt]; exact List.getElem_mem _ : Ru.g cs k ∈ cs)
      obtain ⟨e1, e2, _⟩ := Pr.dec_at his (Pr.drop_pos H.out hlt)
      have hnx := fun ty => Lib.run_next_any_at (P := Tryz.prog) wr (w.heap.size + 1) t (Pr.pos cs k) ty HI.out hp1
      rw [e1, e2, ← Pr.pos_succ hlt] at hnx
      have HI2 := Lib.hid (Lib.iterAt_heap wr (w.heap.size + 1) t (Pr.pos cs k) (Pr.pos cs (k + 1)) HI.out)
      have HBu2 : Hid (Bu (wr.iterAt (w.heap.size + 1) t (Pr.pos cs (k + 1))) w.heap.size (Ru.wr (Pr.nmT dim cs k))) := Lib.hid (Lib.IsBuilderF.iterAt HBu.out HI.out _)
      have HB2 := Lib.hid (Lib.below_iterAt HB.out (k := w.heap.size + 1) (Nat.le_succ _) t (Pr.pos cs (k + 1)))
      obtain ⟨W1, hW1⟩ : ∃ W1, W1 = wr.iterAt (w.heap.size + 1) t (Pr.pos cs (k + 1)) := ⟨_, rfl⟩
      rw [← hW1] at hnx HI2 HBu2 HB2
      have hlen := Pr.nmT_len dim cs H.out.2 k hk
      have hb := Pr.Is_lt his
      have hge := Pr.pos_ge cs hk
      have C1 := Lib.hid (fun w => within_any (Ru.g cs k) w)
      have C2 := Lib.hid (fun w => leads_any t cs H.out k hlt _ rfl w)
      have C3 := Lib.hid (fun w => isdigit_any (Ru.g cs k) w)
      have C4 := Lib.hid (pescape_any w.heap.size _ (Ru.g cs k) hb.1 hb.2 W1 HBu2.out (by omega) (HT.out.below HB2.out))
      have C5 := Lib.hid (writeRune_any w.heap.size _ (Ru.g cs k) (by omega) (by omega) W1 HBu2.out (by omega))
      have HP := Lib.hid (Pr.nmT_wr (dim := dim) (cs := cs) (k := k))
      have HIs := Lib.hid his
      have hda := dash_test H.out
      clear hW1 HI HB HBu e1 e2 his hlen hb
      cases hw : Ru.witB (Ru.g cs k)
      · rw [hw] at C1
        have hw' := Lib.hid hw
        clear hw hda
        have HM : Hid (Pr.must dim cs k = true) := Lib.hid (by show (!Ru.witB (Ru.g cs k) || ((Ru.digB (Ru.g cs k) && Pr.ld cs k) || (decide (cs = [45]) || (dim && (decide (k = 0) && decide (Ru.g cs k = 101 ∨ Ru.g cs k = 69)))))) = true; rw [hw'.out]; simp)
        go_wp2_with (first | (go_at_call 37; ((with_reducible refine (C1.out _).mono ?_); rintro e w1 ⟨rfl, rfl⟩)) | (go_at_call 78; ((with_reducible refine (C2.out _).mono ?_); rintro e w1 ⟨rfl, rfl⟩)) | (go_at_call 73; ((with_reducible refine (C3.out _).mono ?_); rintro e w1 ⟨rfl, rfl⟩)) | (go_at_call 79; ((with_reducible refine (C4.out).mono ?_); rintro e w4 ⟨rfl, U4, b4⟩)) | (go_at_call 80; ((with_reducible refine (C5.out).mono ?_); rintro e w4 ⟨rfl, U4, b4⟩)))
        go_roundg (cs.length - (k + 1))
        case measure => omega
        case rel => exact ⟨k + 1, by omega, by omega, Lib.hid (by rw [HP.out, piece_esc HIs.out HM.out]; exact U4.bu), Lib.hid (b4.2.iter HI2.out (by omega)), Lib.hid (HB2.out.trans b4.1)⟩
      · rw [hw] at C1
        have hw' := Lib.hid hw
        clear hw
        cases hl : Pr.ld cs k
        · rw [hl] at C2
          have hl' := Lib.hid hl
          clear hl
          by_cases hx : cs = [45]
          · rw [decide_eq_true hx] at hda
            have hx' := Lib.hid hx
            clear hx
            have HM : Hid (Pr.must dim cs k = true) := Lib.hid (by show (!Ru.witB (Ru.g cs k) || ((Ru.digB (Ru.g cs k) && Pr.ld cs k) || (decide (cs = [45]) || (dim && (decide (k = 0) && decide (Ru.g cs k = 101 ∨ Ru.g cs k = 69)))))) = true; rw [hw'.out, hl'.out, Bool.and_false, decide_eq_true hx'.out]; simp)
            go_wp2_with (first | (go_at_call 37; ((with_reducible refine (C1.out _).mono ?_); rintro e w1 ⟨rfl, rfl⟩)) | (go_at_call 78; ((with_reducible refine (C2.out _).mono ?_); rintro e w1 ⟨rfl, rfl⟩)) | (go_at_call 73; ((with_reducible refine (C3.out _).mono ?_); rintro e w1 ⟨rfl, rfl⟩)) | (go_at_call 79; ((with_reducible refine (C4.out).mono ?_); rintro e w4 ⟨rfl, U4, b4⟩)) | (go_at_call 80; ((with_reducible refine (C5.out).mono ?_); rintro e w4 ⟨rfl, U4, b4⟩)))
            go_roundg (cs.length - (k + 1))
            case measure => omega
            case rel => exact ⟨k + 1, by omega, by omega, Lib.hid (by rw [HP.out, piece_esc HIs.out HM.out]; exact U4.bu), Lib.hid (b4.2.iter HI2.out (by omega)), Lib.hid (HB2.out.trans b4.1)⟩
          · rw [decide_eq_false hx] at hda
            have hx' := Lib.hid hx
            clear hx
            cases dim
            · have HM : Hid (Pr.must false cs k = false) := Lib.hid (by show (!Ru.witB (Ru.g cs k) || ((Ru.digB (Ru.g cs k) && Pr.ld cs k) || (decide (cs = [45]) || (false && (decide (k = 0) && decide (Ru.g cs k = 101 ∨ Ru.g cs k = 69)))))) = false; rw [hw'.out, hl'.out, Bool.and_false, decide_eq_false hx'.out]; simp)
              go_wp2_with (first | (go_at_call 37; ((with_reducible refine (C1.out _).mono ?_); rintro e w1 ⟨rfl, rfl⟩)) | (go_at_call 78; ((with_reducible refine (C2.out _).mono ?_); rintro e w1 ⟨rfl, rfl⟩)) | (go_at_call 73; ((with_reducible refine (C3.out _).mono ?_); rintro e w1 ⟨rfl, rfl⟩)) | (go_at_call 79; ((with_reducible refine (C4.out).mono ?_); rintro e w4 ⟨rfl, U4, b4⟩)) | (go_at_call 80; ((with_reducible refine (C5.out).mono ?_); rintro e w4 ⟨rfl, U4, b4⟩)))
              go_roundg (cs.length - (k + 1))
              case measure => omega
              case rel => exact ⟨k + 1, by omega, by omega, Lib.hid (by rw [HP.out, piece_raw HM.out]; exact U4.bu), Lib.hid (b4.2.iter HI2.out (by omega)), Lib.hid (HB2.out.trans b4.1)⟩
            · by_cases h0 : k = 0
              · have p0 := Ru.eq_t (show (Pr.pos cs k : Int) = 0 by subst h0; rfl)
                have h0' := Lib.hid h0
                clear h0 hge
                by_cases h1 : Ru.g cs k = 101
                · have q1 := Ru.eq_t h1
                  have h1' := Lib.hid h1
                  clear h1
                  have HM : Hid (Pr.must true cs k = true) := Lib.hid (by show (!Ru.witB (Ru.g cs k) || ((Ru.digB (Ru.g cs k) && Pr.ld cs k) || (decide (cs = [45]) || (true && (decide (k = 0) && decide (Ru.g cs k = 101 ∨ Ru.g cs k = 69)))))) = true; rw [hw'.out, hl'.out, Bool.and_false, decide_eq_false hx'.out, decide_eq_true h0'.out, decide_eq_true (show Ru.g cs k = 101 ∨ Ru.g cs k = 69 from .inl h1'.out)]; simp)
                  go_wp2_with (first | (go_at_call 37; ((with_reducible refine (C1.out _).mono ?_); rintro e w1 ⟨rfl, rfl⟩)) | (go_at_call 78; ((with_reducible refine (C2.out _).mono ?_); rintro e w1 ⟨rfl, rfl⟩)) | (go_at_call 73; ((with_reducible refine (C3.out _).mono ?_); rintro e w1 ⟨rfl, rfl⟩)) | (go_at_call 79; ((with_reducible refine (C4.out).mono ?_); rintro e w4 ⟨rfl, U4, b4⟩)) | (go_at_call 80; ((with_reducible refine (C5.out).mono ?_); rintro e w4 ⟨rfl, U4, b4⟩)))
                  go_roundg (cs.length - (k + 1))
                  case measure => omega
                  case rel => exact ⟨k + 1, by omega, by omega, Lib.hid (by rw [HP.out, piece_esc HIs.out HM.out]; exact U4.bu), Lib.hid (b4.2.iter HI2.out (by omega)), Lib.hid (HB2.out.trans b4.1)⟩
                · have q1 := Ru.eq_f h1
                  have h1' := Lib.hid h1
                  clear h1
                  by_cases h2 : Ru.g cs k = 69
                  · have q2 := Ru.eq_t h2
                    have h2' := Lib.hid h2
                    clear h2
                    have HM : Hid (Pr.must true cs k = true) := Lib.hid (by show (!Ru.witB (Ru.g cs k) || ((Ru.digB (Ru.g cs k) && Pr.ld cs k) || (decide (cs = [45]) || (true && (decide (k = 0) && decide (Ru.g cs k = 101 ∨ Ru.g cs k = 69)))))) = true; rw [hw'.out, hl'.out, Bool.and_false, decide_eq_false hx'.out, decide_eq_true h0'.out, decide_eq_true (show Ru.g cs k = 101 ∨ Ru.g cs k = 69 from .inr h2'.out)]; simp)
                    go_wp2_with (first | (go_at_call 37; ((with_reducible refine (C1.out _).mono ?_); rintro e w1 ⟨rfl, rfl⟩)) | (go_at_call 78; ((with_reducible refine (C2.out _).mono ?_); rintro e w1 ⟨rfl, rfl⟩)) | (go_at_call 73; ((with_reducible refine (C3.out _).mono ?_); rintro e w1 ⟨rfl, rfl⟩)) | (go_at_call 79; ((with_reducible refine (C4.out).mono ?_); rintro e w4 ⟨rfl, U4, b4⟩)) | (go_at_call 80; ((with_reducible refine (C5.out).mono ?_); rintro e w4 ⟨rfl, U4, b4⟩)))
                    go_roundg (cs.length - (k + 1))
                    case measure => omega
                    case rel => exact ⟨k + 1, by omega, by omega, Lib.hid (by rw [HP.out, piece_esc HIs.out HM.out]; exact U4.bu), Lib.hid (b4.2.iter HI2.out (by omega)), Lib.hid (HB2.out.trans b4.1)⟩
                  · have q2 := Ru.eq_f h2
                    have h2' := Lib.hid h2
                    clear h2
                    have HM : Hid (Pr.must true cs k = false) := Lib.hid (by show (!Ru.witB (Ru.g cs k) || ((Ru.digB (Ru.g cs k) && Pr.ld cs k) || (decide (cs = [45]) || (true && (decide (k = 0) && decide (Ru.g cs k = 101 ∨ Ru.g cs k = 69)))))) = false; rw [hw'.out, hl'.out, Bool.and_false, decide_eq_false hx'.out, decide_eq_false (show ¬ (Ru.g cs k = 101 ∨ Ru.g cs k = 69) from fun h => h.elim h1'.out h2'.out)]; simp)
                    go_wp2_with (first | (go_at_call 37; ((with_reducible refine (C1.out _).mono ?_); rintro e w1 ⟨rfl, rfl⟩)) | (go_at_call 78; ((with_reducible refine (C2.out _).mono ?_); rintro e w1 ⟨rfl, rfl⟩)) | (go_at_call 73; ((with_reducible refine (C3.out _).mono ?_); rintro e w1 ⟨rfl, rfl⟩)) | (go_at_call 79; ((with_reducible refine (C4.out).mono ?_); rintro e w4 ⟨rfl, U4, b4⟩)) | (go_at_call 80; ((with_reducible refine (C5.out).mono ?_); rintro e w4 ⟨rfl, U4, b4⟩)))
                    go_roundg (cs.length - (k + 1))
                    case measure => omega
                    case rel => exact ⟨k + 1, by omega, by omega, Lib.hid (by rw [HP.out, piece_raw HM.out]; exact U4.bu), Lib.hid (b4.2.iter HI2.out (by omega)), Lib.hid (HB2.out.trans b4.1)⟩
              · have p0 := Ru.eq_f (show ¬ (Pr.pos cs k : Int) = 0 by omega)
                have h0' := Lib.hid h0
                clear h0 hge
                have HM : Hid (Pr.must true cs k = false) := Lib.hid (by show (!Ru.witB (Ru.g cs k) || ((Ru.digB (Ru.g cs k) && Pr.ld cs k) || (decide (cs = [45]) || (true && (decide (k = 0) && decide (Ru.g cs k = 101 ∨ Ru.g cs k = 69)))))) = false; rw [hw'.out, hl'.out, Bool.and_false, decide_eq_false hx'.out, decide_eq_false h0'.out]; simp)
                go_wp2_with (first | (go_at_call 37; ((with_reducible refine (C1.out _).mono ?_); rintro e w1 ⟨rfl, rfl⟩)) | (go_at_call 78; ((with_reducible refine (C2.out _).mono ?_); rintro e w1 ⟨rfl, rfl⟩)) | (go_at_call 73; ((with_reducible refine (C3.out _).mono ?_); rintro e w1 ⟨rfl, rfl⟩)) | (go_at_call 79; ((with_reducible refine (C4.out).mono ?_); rintro e w4 ⟨rfl, U4, b4⟩)) | (go_at_call 80; ((with_reducible refine (C5.out).mono ?_); rintro e w4 ⟨rfl, U4, b4⟩)))
                go_roundg (cs.length - (k + 1))
                case measure => omega
                case rel => exact ⟨k + 1, by omega, by omega, Lib.hid (by rw [HP.out, piece_raw HM.out]; exact U4.bu), Lib.hid (b4.2.iter HI2.out (by omega)), Lib.hid (HB2.out.trans b4.1)⟩
        · rw [hl] at C2
          have hl' := Lib.hid hl
          clear hl
          cases hd : Ru.digB (Ru.g cs k)
          · rw [hd] at C3
            have hd' := Lib.hid hd
            clear hd
            by_cases hx : cs = [45]
            · rw [decide_eq_true hx] at hda
              have hx' := Lib.hid hx
              clear hx
              have HM : Hid (Pr.must dim cs k = true) := Lib.hid (by show (!Ru.witB (Ru.g cs k) || ((Ru.digB (Ru.g cs k) && Pr.ld cs k) || (decide (cs = [45]) || (dim && (decide (k = 0) && decide (Ru.g cs k = 101 ∨ Ru.g cs k = 69)))))) = true; rw [hw'.out, hd'.out, Bool.false_and, decide_eq_true hx'.out]; simp)
              go_wp2_with (first | (go_at_call 37; ((with_reducible refine (C1.out _).mono ?_); rintro e w1 ⟨rfl, rfl⟩)) | (go_at_call 78; ((with_reducible refine (C2.out _).mono ?_); rintro e w1 ⟨rfl, rfl⟩)) | (go_at_call 73; ((with_reducible refine (C3.out _).mono ?_); rintro e w1 ⟨rfl, rfl⟩)) | (go_at_call 79; ((with_reducible refine (C4.out).mono ?_); rintro e w4 ⟨rfl, U4, b4⟩)) | (go_at_call 80; ((with_reducible refine (C5.out).mono ?_); rintro e w4 ⟨rfl, U4, b4⟩)))
              go_roundg (cs.length - (k + 1))
              case measure => omega
              case rel => exact ⟨k + 1, by omega, by omega, Lib.hid (by rw [HP.out, piece_esc HIs.out HM.out]; exact U4.bu), Lib.hid (b4.2.iter HI2.out (by omega)), Lib.hid (HB2.out.trans b4.1)⟩
            · rw [decide_eq_false hx] at hda
              have hx' := Lib.hid hx
              clear hx
              cases dim
              · have HM : Hid (Pr.must false cs k = false) := Lib.hid (by show (!Ru.witB (Ru.g cs k) || ((Ru.digB (Ru.g cs k) && Pr.ld cs k) || (decide (cs = [45]) || (false && (decide (k = 0) && decide (Ru.g cs k = 101 ∨ Ru.g cs k = 69)))))) = false; rw [hw'.out, hd'.out, Bool.false_and, decide_eq_false hx'.out]; simp)
                go_wp2_with (first | (go_at_call 37; ((with_reducible refine (C1.out _).mono ?_); rintro e w1 ⟨rfl, rfl⟩)) | (go_at_call 78; ((with_reducible refine (C2.out _).mono ?_); rintro e w1 ⟨rfl, rfl⟩)) | (go_at_call 73; ((with_reducible refine (C3.out _).mono ?_); rintro e w1 ⟨rfl, rfl⟩)) | (go_at_call 79; ((with_reducible refine (C4.out).mono ?_); rintro e w4 ⟨rfl, U4, b4⟩)) | (go_at_call 80; ((with_reducible refine (C5.out).mono ?_); rintro e w4 ⟨rfl, U4, b4⟩)))
                go_roundg (cs.length - (k + 1))
                case measure => omega
                case rel => exact ⟨k + 1, by omega, by omega, Lib.hid (by rw [HP.out, piece_raw HM.out]; exact U4.bu), Lib.hid (b4.2.iter HI2.out (by omega)), Lib.hid (HB2.out.trans b4.1)⟩
              · by_cases h0 : k = 0
                · have p0 := Ru.eq_t (show (Pr.pos cs k : Int) = 0 by subst h0; rfl)
                  have h0' := Lib.hid h0
                  clear h0 hge
                  by_cases h1 : Ru.g cs k = 101
                  · have q1 := Ru.eq_t h1
                    have h1' := Lib.hid h1
                    clear h1
                    have HM : Hid (Pr.must true cs k = true) := Lib.hid (by show (!Ru.witB (Ru.g cs k) || ((Ru.digB (Ru.g cs k) && Pr.ld cs k) || (decide (cs = [45]) || (true && (decide (k = 0) && decide (Ru.g cs k = 101 ∨ Ru.g cs k = 69)))))) = true; rw [hw'.out, hd'.out, Bool.false_and, decide_eq_false hx'.out, decide_eq_true h0'.out, decide_eq_true (show Ru.g cs k = 101 ∨ Ru.g cs k = 69 from .inl h1'.out)]; simp)
                    go_wp2_with (first | (go_at_call 37; ((with_reducible refine (C1.out _).mono ?_); rintro e w1 ⟨rfl, rfl⟩)) | (go_at_call 78; ((with_reducible refine (C2.out _).mono ?_); rintro e w1 ⟨rfl, rfl⟩)) | (go_at_call 73; ((with_reducible refine (C3.out _).mono ?_); rintro e w1 ⟨rfl, rfl⟩)) | (go_at_call 79; ((with_reducible refine (C4.out).mono ?_); rintro e w4 ⟨rfl, U4, b4⟩)) | (go_at_call 80; ((with_reducible refine (C5.out).mono ?_); rintro e w4 ⟨rfl, U4, b4⟩)))
                    go_roundg (cs.length - (k + 1))
                    case measure => omega
                    case rel => exact ⟨k + 1, by omega, by omega, Lib.hid (by rw [HP.out, piece_esc HIs.out HM.out]; exact U4.bu), Lib.hid (b4.2.iter HI2.out (by omega)), Lib.hid (HB2.out.trans b4.1)⟩
                  · have q1 := Ru.eq_f h1
                    have h1' := Lib.hid h1
                    clear h1
                    by_cases h2 : Ru.g cs k = 69
                    · have q2 := Ru.eq_t h2
                      have h2' := Lib.hid h2
                      clear h2
                      have HM : Hid (Pr.must true cs k = true) := Lib.hid (by show (!Ru.witB (Ru.g cs k) || ((Ru.digB (Ru.g cs k) && Pr.ld cs k) || (decide (cs = [45]) || (true && (decide (k = 0) && decide (Ru.g cs k = 101 ∨ Ru.g cs k = 69)))))) = true; rw [hw'.out, hd'.out, Bool.false_and, decide_eq_false hx'.out, decide_eq_true h0'.out, decide_eq_true (show Ru.g cs k = 101 ∨ Ru.g cs k = 69 from .inr h2'.out)]; simp)
                      go_wp2_with (first | (go_at_call 37; ((with_reducible refine (C1.out _).mono ?_); rintro e w1 ⟨rfl, rfl⟩)) | (go_at_call 78; ((with_reducible refine (C2.out _).mono ?_); rintro e w1 ⟨rfl, rfl⟩)) | (go_at_call 73; ((with_reducible refine (C3.out _).mono ?_); rintro e w1 ⟨rfl, rfl⟩)) | (go_at_call 79; ((with_reducible refine (C4.out).mono ?_); rintro e w4 ⟨rfl, U4, b4⟩)) | (go_at_call 80; ((with_reducible refine (C5.out).mono ?_); rintro e w4 ⟨rfl, U4, b4⟩)))
                      go_roundg (cs.length - (k + 1))
                      case measure => omega
                      case rel => exact ⟨k + 1, by omega, by omega, Lib.hid (by rw [HP.out, piece_esc HIs.out HM.out]; exact U4.bu), Lib.hid (b4.2.iter HI2.out (by omega)), Lib.hid (HB2.out.trans b4.1)⟩
                    · have q2 := Ru.eq_f h2
                      have h2' := Lib.hid h2
                      clear h2
                      have HM : Hid (Pr.must true cs k = false) := Lib.hid (by show (!Ru.witB (Ru.g cs k) || ((Ru.digB (Ru.g cs k) && Pr.ld cs k) || (decide (cs = [45]) || (true && (decide (k = 0) && decide (Ru.g cs k = 101 ∨ Ru.g cs k = 69)))))) = false; rw [hw'.out, hd'.out, Bool.false_and, decide_eq_false hx'.out, decide_eq_false (show ¬ (Ru.g cs k = 101 ∨ Ru.g cs k = 69) from fun h => h.elim h1'.out h2'.out)]; simp)
                      go_wp2_with (first | (go_at_call 37; ((with_reducible refine (C1.out _).mono ?_); rintro e w1 ⟨rfl, rfl⟩)) | (go_at_call 78; ((with_reducible refine (C2.out _).mono ?_); rintro e w1 ⟨rfl, rfl⟩)) | (go_at_call 73; ((with_reducible refine (C3.out _).mono ?_); rintro e w1 ⟨rfl, rfl⟩)) | (go_at_call 79; ((with_reducible refine (C4.out).mono ?_); rintro e w4 ⟨rfl, U4, b4⟩)) | (go_at_call 80; ((with_reducible refine (C5.out).mono ?_); rintro e w4 ⟨rfl, U4, b4⟩)))
                      go_roundg (cs.length - (k + 1))
                      case measure => omega
                      case rel => exact ⟨k + 1, by omega, by omega, Lib.hid (by rw [HP.out, piece_raw HM.out]; exact U4.bu), Lib.hid (b4.2.iter HI2.out (by omega)), Lib.hid (HB2.out.trans b4.1)⟩
                · have p0 := Ru.eq_f (show ¬ (Pr.pos cs k : Int) = 0 by omega)
                  have h0' := Lib.hid h0
                  clear h0 hge
                  have HM : Hid (Pr.must true cs k = false) := Lib.hid (by show (!Ru.witB (Ru.g cs k) || ((Ru.digB (Ru.g cs k) && Pr.ld cs k) || (decide (cs = [45]) || (true && (decide (k = 0) && decide (Ru.g cs k = 101 ∨ Ru.g cs k = 69)))))) = false; rw [hw'.out, hd'.out, Bool.false_and, decide_eq_false hx'.out, decide_eq_false h0'.out]; simp)
                  go_wp2_with (first | (go_at_call 37; ((with_reducible refine (C1.out _).mono ?_); rintro e w1 ⟨rfl, rfl⟩)) | (go_at_call 78; ((with_reducible refine (C2.out _).mono ?_); rintro e w1 ⟨rfl, rfl⟩)) | (go_at_call 73; ((with_reducible refine (C3.out _).mono ?_); rintro e w1 ⟨rfl, rfl⟩)) | (go_at_call 79; ((with_reducible refine (C4.out).mono ?_); rintro e w4 ⟨rfl, U4, b4⟩)) | (go_at_call 80; ((with_reducible refine (C5.out).mono ?_); rintro e w4 ⟨rfl, U4, b4⟩)))
                  go_roundg (cs.length - (k + 1))
                  case measure => omega
                  case rel => exact ⟨k + 1, by omega, by omega, Lib.hid (by rw [HP.out, piece_raw HM.out]; exact U4.bu), Lib.hid (b4.2.iter HI2.out (by omega)), Lib.hid (HB2.out.trans b4.1)⟩
          · rw [hd] at C3
            have hd' := Lib.hid hd
            clear hd hda
            have HM : Hid (Pr.must dim cs k = true) := Lib.hid (by show (!Ru.witB (Ru.g cs k) || ((Ru.digB (Ru.g cs k) && Pr.ld cs k) || (decide (cs = [45]) || (dim && (decide (k = 0) && decide (Ru.g cs k = 101 ∨ Ru.g cs k = 69)))))) = true; rw [hw'.out, hl'.out, hd'.out]; simp)
            go_wp2_with (first | (go_at_call 37; ((with_reducible refine (C1.out _).mono ?_); rintro e w1 ⟨rfl, rfl⟩)) | (go_at_call 78; ((with_reducible refine (C2.out _).mono ?_); rintro e w1 ⟨rfl, rfl⟩)) | (go_at_call 73; ((with_reducible refine (C3.out _).mono ?_); rintro e w1 ⟨rfl, rfl⟩)) | (go_at_call 79; ((with_reducible refine (C4.out).mono ?_); rintro e w4 ⟨rfl, U4, b4⟩)) | (go_at_call 80; ((with_reducible refine (C5.out).mono ?_); rintro e w4 ⟨rfl, U4, b4⟩)))
            go_roundg (cs.length - (k + 1))
            case measure => omega
            case rel => exact ⟨k + 1, by omega, by omega, Lib.hid (by rw [HP.out, piece_esc HIs.out HM.out]; exact U4.bu), Lib.hid (b4.2.iter HI2.out (by omega)), Lib.hid (HB2.out.trans b4.1)⟩
    · obtain rfl : k = cs.length := by omega
      have hnx := fun ty => Lib.run_next_end_at (P := Tryz.prog) wr (w.heap.size + 1) t (Pr.pos cs cs.length) ty HI.out (by rw [Pr.pos_end H.out]; omega)
      have C6 := Lib.hid (string_any w.heap.size (Pr.nm dim cs) wr HBu.out)
      clear HBu
      go_wp2_with (go_at_call 24; ((with_reducible refine (C6.out).mono ?_); rintro e w4 ⟨rfl, b4⟩))
      go_ret
      exact ⟨rfl, HB.out.trans b4.1⟩
end Go.Proofs.YtgcmjkimiakibaaGreatDoor

/-
  The walk of print's enquote.
-/
namespace Go.Proofs.YtgcmjkimiakibaaGreatDoor
open Go.RowKit

namespace Pr
open Ru Tk
/-- the first k characters of a text in quotes -/
def enT (cs : List Int) (k : Nat) : List Int := enq (cs.take k)
theorem enT_wr {cs : List Int} {k : Nat} (h : k < cs.length) : wr (enT cs (k + 1)) = wr (enT cs k) ++ wr (qC (g cs k)) := by
  unfold enT
  rw [take_g h, enq_snoc, wr_app]
theorem qC_len {c : Int} (h : Is c) : (wr (qC c)).length ≤ 8 := by
  unfold qC
  split
  · rw [escC_wr (Is_lt h).1]; exact escC_len _
  · have := (Lib.encodeRuneZ_length c).2
    rw [wr_cons, wr_nil, List.append_nil]; omega
theorem enT_len (cs : List Int) (h : ∀ c ∈ cs, Is c) : ∀ k, k ≤ cs.length → (wr (enT cs k)).length ≤ 8 * k
  | 0, _ => by unfold enT enq; simp [wr_nil]
  | k + 1, hk => by
    have := enT_len cs h k (by omega)
    have := qC_len (c := g cs k) (by rw [g_eq (by omega)]; exact h _ (List.getElem_mem _))
    rw [enT_wr (by omega), List.length_append]; omega
theorem qC_esc {c : Int} (hi : Is c) (h : spec c) : wr (qC c) = escC c := by
  unfold qC
  rw [if_pos h, escC_wr (Is_lt hi).1]
theorem qC_raw {c : Int} (h : ¬ spec c) : wr (qC c) = Lib.encodeRuneZ c := by
  unfold qC
  rw [if_neg h, wr_cons, wr_nil, List.append_nil]
end Pr
def EnAt (t : ByteArray) (cs : List Int) (w : World) (r : Nat) (wr : World) : Prop :=
  ∃ k, k ≤ cs.length ∧ cs.length - k ≤ r ∧ Hid (Bu wr w.heap.size (Ru.wr (Pr.enT cs k))) ∧ Hid (wr.heap[w.heap.size + 1]? = some (.stringIter t (Pr.pos cs k))) ∧ Hid (Below w.heap.size w wr)
set_option maxHeartbeats 4000000 in
set_option maxRecDepth 100000 in
theorem enquote_any (t : ByteArray) (cs : List Int) (h : Pr.Txt t cs) (hm : t.size ≤ 10000) (w : World) (hT : PTab w.heap.size w) :
    Calls Tryz.prog 50 #[.string t] w fun e w' => e = .returned (.string (Tk.str (Pr.enq cs))) ∧ Below w.heap.size w w' := by
  have H := Lib.hid h
  have HT := Lib.hid hT
  have hcs : cs.length ≤ 10000 := by
    have := Pr.wr_len_ge cs
    rw [← Pr.txt_size h] at this
    omega
  clear h hT
  go_enter Tryz.func50, Tryz.ntmps50
  go_wp2_with fail
  go_loopg [] (cs.length + 1) (EnAt t cs w)
  case atStart => exact ⟨0, by omega, by omega, Lib.hid ((Bu.new w).alloc _), Lib.hid (iter_start w t), Lib.hid (((Below.refl _ _).alloc (Nat.le_refl _) _).alloc (by simp) _)⟩
  case round =>
    obtain ⟨k, hk, hr, HBu, HI, HB⟩ := hrel
    by_cases hlt : k < cs.length
    · obtain ⟨hp1, hp2⟩ := Pr.pos_lt H.out hlt
      have his := H.out.2 _ (by rw [Ru.g_eq hlt]; exact List.getElem_mem _ : Ru.g cs k ∈ cs)
      obtain ⟨e1, e2, _⟩ := Pr.dec_at his (Pr.drop_pos H.out hlt)
      have hnx := fun ty => Lib.run_next_any_at (P := Tryz.prog) wr (w.heap.size + 1) t (Pr.pos cs k) ty HI.out hp1
      rw [e1, e2, ← Pr.pos_succ hlt] at hnx
      have HI2 := Lib.hid (Lib.iterAt_heap wr (w.heap.size + 1) t (Pr.pos cs k) (Pr.pos cs (k + 1)) HI.out)
      have HBu2 : Hid (Bu (wr.iterAt (w.heap.size + 1) t (Pr.pos cs (k + 1))) w.heap.size (Ru.wr (Pr.enT cs k))) := Lib.hid (Lib.IsBuilderF.iterAt HBu.out HI.out _)
      have HB2 := Lib.hid (Lib.below_iterAt HB.out (k := w.heap.size + 1) (Nat.le_succ _) t (Pr.pos cs (k + 1)))
      obtain ⟨W1, hW1⟩ : ∃ W1, W1 = wr.iterAt (w.heap.size + 1) t (Pr.pos cs (k + 1)) := ⟨_, rfl⟩
      rw [← hW1] at hnx HI2 HBu2 HB2
      have hlen := Pr.enT_len cs H.out.2 k hk
      have hb := Pr.Is_lt his
      have C4 := Lib.hid (pescape_any w.heap.size _ (Ru.g cs k) hb.1 hb.2 W1 HBu2.out (by omega) (HT.out.below HB2.out))
      have C5 := Lib.hid (writeRune_any w.heap.size _ (Ru.g cs k) (by omega) (by omega) W1 HBu2.out (by omega))
      have HP := Lib.hid (Pr.enT_wr hlt)
      have HIs := Lib.hid his
      clear hW1 HI HB HBu e1 e2 his hlen hb
      by_cases hs : Pr.spec (Ru.g cs k)
      · have HS := Lib.hid hs
        unfold Pr.spec at hs
        generalize Ru.g cs k = c at *
        rcases hs with rfl | rfl | rfl | rfl | rfl
        all_goals
          go_wp2_with (go_at_call 79; ((with_reducible refine (C4.out).mono ?_); rintro e w4 ⟨rfl, U4, b4⟩))
          go_roundg (cs.length - (k + 1))
          case measure => omega
          case rel => exact ⟨k + 1, by omega, by omega, Lib.hid (by rw [HP.out, Pr.qC_esc HIs.out HS.out]; exact U4.bu), Lib.hid (b4.2.iter HI2.out (by omega)), Lib.hid (HB2.out.trans b4.1)⟩
      · have HS := Lib.hid hs
        unfold Pr.spec at hs
        have q1 := Ru.eq_f (show ¬ Ru.g cs k = 34 by omega)
        have q2 := Ru.eq_f (show ¬ Ru.g cs k = 92 by omega)
        have q3 := Ru.eq_f (show ¬ Ru.g cs k = 10 by omega)
        have q4 := Ru.eq_f (show ¬ Ru.g cs k = 12 by omega)
        have q5 := Ru.eq_f (show ¬ Ru.g cs k = 13 by omega)
        clear hs
        go_wp2_with (go_at_call 80; ((with_reducible refine (C5.out).mono ?_); rintro e w4 ⟨rfl, U4, b4⟩))
        go_roundg (cs.length - (k + 1))
        case measure => omega
        case rel => exact ⟨k + 1, by omega, by omega, Lib.hid (by rw [HP.out, Pr.qC_raw HS.out]; exact U4.bu), Lib.hid (b4.2.iter HI2.out (by omega)), Lib.hid (HB2.out.trans b4.1)⟩
    · obtain rfl : k = cs.length := by omega
      have hnx := fun ty => Lib.run_next_end_at (P := Tryz.prog) wr (w.heap.size + 1) t (Pr.pos cs cs.length) ty HI.out (by rw [Pr.pos_end H.out]; omega)
      have C6 := Lib.hid (string_any w.heap.size (Pr.enq cs) wr (by have := HBu.out; unfold Pr.enT at this; rw [List.take_length] at this; exact this))
      clear HBu
      go_wp2_with (go_at_call 24; ((with_reducible refine (C6.out).mono ?_); rintro e w4 ⟨rfl, b4⟩))
      go_ret
      exact ⟨rfl, HB.out.trans b4.1⟩
end Go.Proofs.YtgcmjkimiakibaaGreatDoor
