/-
  Plain: what is printed of characters below 128. No run of the program in this text.
-/
import Derived.Test.YtgcmjkimiakibaaDoorGas
import Derived.Test.YtgcmjkimiakibaaDoorGbd
import Derived.LoopTactic
import Derived.IntWalk
namespace Go.Proofs.YtgcmjkimiakibaaDoor
namespace Pr
open Ru Tk
open Go.Lib (encodeRuneZ)

/-- characters below 128, k of them are 10 -/
def Asc (l : List Int) (k : Nat) : Prop := (∀ c ∈ l, 0 ≤ c ∧ c ≤ 127) ∧ l.count 10 = k
theorem Asc.app {a b : List Int} {j k : Nat} (ha : Asc a j) (hb : Asc b k) : Asc (a ++ b) (j + k) :=
  ⟨fun c hc => (List.mem_append.1 hc).elim (ha.1 c) (hb.1 c), by rw [List.count_append, ha.2, hb.2]⟩
theorem asc_of {l : List Int} (h : ∀ c ∈ l, 0 ≤ c ∧ c ≤ 127 ∧ c ≠ 10) : Asc l 0 :=
  ⟨fun c hc => ⟨(h c hc).1, (h c hc).2.1⟩, List.count_eq_zero.2 fun hc => (h 10 hc).2.2 rfl⟩
theorem asc_cons {c : Int} {l : List Int} {k : Nat} (hc : 0 ≤ c ∧ c ≤ 127 ∧ c ≠ 10) (h : Asc l k) : Asc (c :: l) k := by
  have := (asc_of (l := [c]) (fun d hd => by rw [List.mem_singleton] at hd; subst hd; exact hc)).app h
  rwa [Nat.zero_add] at this
theorem asc_esc {c : Int} (h : 0 ≤ c) : Asc (escC c) 0 := asc_of fun x hx => by
  have := escC_asc h x hx
  omega
theorem asc_nm (dim : Bool) {l : List Int} (h : Ok l) (ha : ∀ c ∈ l, c < 128) : Asc (nm dim l) 0 := asc_of fun x hx => by
  unfold nm nmT at hx
  obtain ⟨i, hi, hx⟩ := List.mem_flatMap.1 hx
  rw [List.mem_range] at hi
  obtain ⟨h1, h2⟩ := h.at_ hi
  have h3 : g l i < 128 := by rw [g_eq hi]; exact ha _ (List.getElem_mem hi)
  unfold piece at hx
  cases hm : must dim l i
  · rw [hm, if_neg (by simp), List.mem_singleton] at hx
    subst hx
    have hw := (must_no hm).1
    refine ⟨(Is_lt h1).1, by omega, fun e => ?_⟩
    rw [e] at hw
    revert hw
    decide
  · rw [hm, if_pos rfl] at hx
    have := escC_asc (Is_lt h1).1 x hx
    omega
theorem asc_enq {l : List Int} (h : Ok l) (ha : ∀ c ∈ l, c < 128) : Asc (enq l) 0 := asc_of fun x hx => by
  unfold enq at hx
  obtain ⟨c, hc, hx⟩ := List.mem_flatMap.1 hx
  obtain ⟨h1, h2⟩ := h c hc
  have h3 := ha c hc
  unfold qC at hx
  split at hx
  · have := escC_asc (Is_lt h1).1 x hx
    omega
  · rename_i hs
    rw [List.mem_singleton] at hx
    subst hx
    unfold spec at hs
    exact ⟨(Is_lt h1).1, by omega, by omega⟩
theorem asc_nC (n : Int) : Asc (nC n) 0 := asc_of fun x hx => by
  have := nC_chr n x hx
  omega
theorem asc_one {c : Int} (hc : 0 ≤ c ∧ c ≤ 127 ∧ c ≠ 10) : Asc [c] 0 := asc_of fun d hd => by rw [List.mem_singleton] at hd; subst hd; exact hc
theorem asc_tokC {t : PT} (h : One t) (ha : ∀ c ∈ t.2.1, c < 128) : Asc (tokC t) (if t.1 = 1 then 1 else 0) := by
  obtain ⟨k, l, n⟩ := t
  obtain ⟨ho, hk⟩ := h
  simp only at ho hk ha
  have a := fun dim => asc_nm dim ho ha
  have b := asc_enq ho ha
  have c := asc_nC n
  unfold Kd at hk
  unfold tokC
  simp only
  rcases hk with ⟨rfl, _⟩ | ⟨rfl | rfl | rfl | rfl, _⟩ | ⟨rfl | rfl, _⟩ | ⟨rfl | rfl, _⟩ | ⟨rfl, _⟩ | ⟨rfl, ⟨c, rfl, hd⟩, _⟩ | ⟨rfl, rfl | rfl | rfl, _⟩ | ⟨rfl, rfl | rfl | rfl, _⟩ | ⟨rfl | rfl | rfl, _⟩
  · exact ⟨fun c hc => by rw [if_pos rfl, List.mem_singleton] at hc; subst hc; omega, rfl⟩
  · exact a false
  · exact (a false).app (asc_one (by omega))
  · exact asc_cons (by omega) (a false)
  · exact asc_cons (by omega) (a false)
  · exact asc_cons (by omega) (b.app (asc_one (by omega)))
  · exact asc_cons (by omega) b
  · exact c
  · exact c.app (asc_one (by omega))
  · exact c.app (a true)
  · refine asc_one ?_
    unfold Del at hd
    have := ha c (by simp)
    have := (Is_lt (ho c (by simp)).1).1
    omega
  · exact asc_one (by omega)
  · exact asc_one (by omega)
  · exact asc_one (by omega)
  · exact asc_one (by omega)
  · exact asc_one (by omega)
  · exact asc_one (by omega)
  · exact asc_one (by omega)
  · exact asc_one (by omega)
  · exact asc_one (by omega)
theorem asc_sep (a : Option Int) (b : Int) : Asc (sep a b) 0 := by
  unfold sep
  split
  · exact asc_of (fun c hc => by simp at hc)
  · split
    · exact asc_of (fun c hc => by simp at hc)
    · exact asc_of (fun c hc => by simp at hc; omega)
/-- how many Space -/
def spaces : List PT → Nat
  | [] => 0
  | t :: r => (if t.1 = 1 then 1 else 0) + spaces r
theorem asc_prL : ∀ (ps : List PT) (a : Option Int), (∀ t ∈ ps, One t) → (∀ t ∈ ps, ∀ c ∈ t.2.1, c < 128) → Asc (prL a ps) (spaces ps)
  | [], a, _, _ => by unfold prL spaces; exact ⟨fun c hc => by simp at hc, rfl⟩
  | t :: r, a, h, ha => by
    have ih := asc_prL r (some t.1) (fun u hu => h u (by simp [hu])) (fun u hu => ha u (by simp [hu]))
    have := (asc_sep a t.1).app ((asc_tokC (h t (by simp)) (ha t (by simp))).app ih)
    rw [Nat.zero_add] at this
    exact this
/-- a text of bytes below 128 is of such characters -/
theorem low_txt {cs : List Int} (h : ∀ c ∈ cs, Is c) (hb : ∀ x ∈ wr cs, x < 128) : ∀ c ∈ cs, c < 128 := by
  induction cs with
  | nil => intro c hc; simp at hc
  | cons d r ih =>
    intro c hc
    rw [wr_cons] at hb
    rcases List.mem_cons.1 hc with rfl | hc
    · have hi := h c (by simp)
      by_cases h0 : c < 128
      · exact h0
      · exfalso
        have hne : encodeRuneZ c ≠ [] := by
          have := (Go.Lib.encodeRuneZ_length c).1
          intro e
          rw [e] at this
          simp at this
        have key : ∀ x ∈ encodeRuneZ c, 128 ≤ x := by
          unfold Is at hi
          by_cases c2 : c ≤ 2047
          · rw [Go.Lib.encodeRuneZ_two (by omega) c2]; intro x hx; simp at hx; omega
          · by_cases c3 : c ≤ 65535
            · rw [Go.Lib.encodeRuneZ_three (by omega)]; intro x hx; simp at hx; omega
            · rw [Go.Lib.encodeRuneZ_four (by omega) (by omega)]; intro x hx; simp at hx; omega
        obtain ⟨x, hx⟩ := List.exists_mem_of_ne_nil _ hne
        have h1 := key x hx
        have h2 := hb x (List.mem_append_left _ hx)
        omega
    · exact ih (fun c hc => h c (by simp [hc])) (fun x hx => hb x (List.mem_append_right _ hx)) c hc
end Pr
end Go.Proofs.YtgcmjkimiakibaaDoor

/-
  The walk of the law PrintAscii.
-/
namespace Go.Proofs.YtgcmjkimiakibaaDoor
open Go.RowKit

namespace Pr
open Ru Tk
theorem spaces_app : ∀ (a b : List PT), spaces (a ++ b) = spaces a + spaces b
  | [], b => by rw [List.nil_append, spaces]; omega
  | t :: r, b => by rw [List.cons_append, spaces, spaces, spaces_app r b]; omega
theorem spaces_next {ps : List PT} {k : Nat} (h : k < ps.length) : spaces (ps.take (k + 1)) = spaces (ps.take k) + (if (pt ps k).1 = 1 then 1 else 0) := by
  rw [take_pt h, spaces_app, spaces, spaces]; omega
theorem spaces_le : ∀ (a : List PT), spaces a ≤ a.length
  | [] => by rw [spaces]; simp
  | t :: r => by
    have := spaces_le r
    rw [spaces, List.length_cons]
    split <;> omega
/-- all bytes of the text are below 128 -/
def Low (t : ByteArray) : Prop := ∀ j, j < t.size → g (bs t) j < 128
theorem low_mem {t : ByteArray} (h : Low t) : ∀ x ∈ bs t, x < 128 := fun x hx => by
  obtain ⟨j, hj, rfl⟩ := List.mem_iff_getElem.1 hx
  have := h j (by rw [← bs_len]; exact hj)
  rwa [g_eq hj] at this
theorem count_next {l : List Int} {k : Nat} (h : k < l.length) : (l.take (k + 1)).count 10 = (l.take k).count 10 + (if g l k = 10 then 1 else 0) := by
  rw [take_g h, List.count_append]
  congr 1
  by_cases e : g l k = 10
  · rw [e]; rfl
  · rw [if_neg e, List.count_eq_zero]
    intro hm
    rw [List.mem_singleton] at hm
    exact e hm.symm
end Pr
set_option maxHeartbeats 16000000 in
set_option maxRecDepth 100000 in
theorem ascii_any (us : List Tk.Tok) (hn : us.length ≤ 9223372036854775807) (hw : Pr.Wf us) (A : Option Addr) (cap : Nat) (hc : us.length ≤ cap) (w : World) (h : Ts w w.heap.size A us) (hT : PTab w.heap.size w) :
    Calls Tryd.prog 5 #[.slice A us.length cap] w (Bo true w) := by
  have CA : Hid (∀ W, Below w.heap.size w W → Calls Tryd.prog 7 #[] W (Bo true W)) := Lib.hid fun W hb => awake_any W (hT.next hb)
  by_cases hF : Pr.Fair us
  · have CF := Lib.hid (few_any us hn true (by simp [hF]) A cap w h)
    have hm := hF.1
    by_cases hR : Pr.RightU us
    · have CR := Lib.hid (rright_any us hF true (by simp [hR]) A cap w h)
      obtain ⟨ps, hps, hr, hp⟩ := print_right us hF hw hR
      have hl : us.length = ps.length := by rw [hps]; simp
      have CP : Hid (∀ W, Below w.heap.size w W → Calls Tryd.prog 12 #[.slice A us.length cap] W (Sg (Tk.str (Pr.prL none ps)) W)) := Lib.hid fun W hb => hp A cap W hc (h.next hb) (hT.next hb)
      have H := Lib.hid h
      have HF := Lib.hid hF
      have HL := Lib.hid hl
      have HPS := Lib.hid hps
      have HRT := Lib.hid hr
      clear h hT hw hF hR hp hl hps hr hc hn
      go_enter Tryd.func5, Tryd.ntmps5
      go_wp2_with (first | (go_at_call 6; ((with_reducible refine (CF.out).mono ?_); rintro e w1 ⟨rfl, rfl⟩)) | (go_at_call 11; ((with_reducible refine (CR.out).mono ?_); rintro e w2 ⟨rfl, b2⟩; have HB2 := Lib.hid b2; clear b2 CR)))
      go_loopw [3, 20] (fun v3 v20 wr => ∃ k : Nat, k ≤ us.length ∧ v20 = .int .i64 k ∧ (∃ s : Nat, s ≤ k ∧ v3 = .int .i64 s ∧ Hid (s = Pr.spaces (ps.take k))) ∧ Hid (∀ j, j < k → Pr.Low (Tk.tk us j).2.1) ∧ Hid (Below w.heap.size w wr)) (fun _ v20 _ => us.length - (RowKit.intOf v20).toNat)
      case atStart => exact ⟨0, Nat.zero_le _, rfl, ⟨0, Nat.le_refl _, rfl, Lib.hid rfl⟩, Lib.hid (fun j hj => by omega), HB2⟩
      case round =>
        obtain ⟨k, hk, rfl, ⟨s, hs, rfl, HS⟩, HK, HB⟩ := hrel
        by_cases hlt : k < us.length
        · obtain ⟨bb, off, rfl, hbb, hp⟩ := H.out.next HB.out (by omega)
          obtain ⟨p0, p1, p2⟩ := hp k hlt
          have hsz := HF.out.2 k hlt
          have HY : Hid (Pr.Low (Tk.tk us k).2.1 → ∀ j, j < k + 1 → Pr.Low (Tk.tk us j).2.1) := Lib.hid (fun hx j hj => by
            by_cases e : j = k
            · subst e; exact hx
            · exact HK.out j (by omega))
          have HSN : Hid (Pr.spaces (ps.take (k + 1)) = s + (if (Tk.tk us k).1 = 1 then 1 else 0)) := Lib.hid (by
            have hlp : k < ps.length := by rw [← HL.out]; exact hlt
            rw [Pr.spaces_next hlp, ← HS.out, HPS.out, Pr.tk_map hlp]; rfl)
          clear hp
          generalize Tk.tk us k = u at *
          obtain ⟨kd, t, n⟩ := u
          simp only at p0 p1 p2 hsz HY HSN
          obtain ⟨W0, hW⟩ : ∃ W0, W0 = wr.alloc (.cells #[.int .i64 kd, .string t, .int .i64 n] 26) := ⟨_, rfl⟩
          have hb0 : Below wr.heap.size wr W0 := by rw [hW]; exact (Below.refl _ _).alloc (Nat.le_refl _) _
          have k0 : W0.heap[wr.heap.size]? = some (.cells #[.int .i64 kd, .string t, .int .i64 n] 26 (0, 0)) := by rw [hW]; exact heap_alloc_new wr _
          obtain ⟨q0, q1, q2⟩ := tok3_cells k0
          have HB0 := Lib.hid (below_next HB.out hb0)
          clear hb0 k0
          go_upto_region 7 with fail
          rw [← hW]
          clear hW
          go_wp2_with fail
          go_loopw [27] (fun v27 wi => ∃ i : Nat, i ≤ t.size ∧ v27 = .int .i64 i ∧ Hid (∀ j, j < i → Ru.g (Ru.bs t) j < 128) ∧ wi = W0) (fun v27 _ => t.size - (RowKit.intOf v27).toNat)
          case atStart => exact ⟨0, Nat.zero_le _, rfl, Lib.hid (fun j hj => by omega), rfl⟩
          case round =>
            obtain ⟨i, hi, rfl, HI, rfl⟩ := hrel
            by_cases hit : i < t.size
            · have HG := Lib.hid (Ru.bs_get t i hit)
              by_cases h128 : 128 ≤ (t[i].toNat : Int)
              · have C6 := Lib.hid (CA.out _ HB0.out)
                go_wp2_with (go_at_call 7; ((with_reducible refine (C6.out).mono ?_); rintro e w7 ⟨rfl, b7⟩; have HB7 := Lib.hid (below_next HB0.out b7); clear b7))
                go_ret
                exact ⟨rfl, HB7.out⟩
              · have HV : Hid (∀ j, j < i + 1 → Ru.g (Ru.bs t) j < 128) := Lib.hid (fun j hj => by
                  by_cases e : j = i
                  · subst e; rw [HG.out]; omega
                  · exact HI.out j (by omega))
                go_wp2_with fail
                go_roundw
                case rel => exact ⟨i + 1, hit, by go_num, HV, trivial⟩
                case measure => simp [RowKit.intOf]; omega
            · have HV := Lib.hid (HY.out (fun j hj => HI.out j (by omega)))
              clear HY HI
              by_cases hk1 : kd = 1
              · subst hk1
                have HS2 : Hid (s + 1 = Pr.spaces (ps.take (k + 1))) := Lib.hid (by rw [HSN.out, if_pos rfl])
                have hwr : IntKind.i64.wrap ((s : Int) + 1) = (s : Int) + 1 := IntWalk.i64_in _ (by omega)
                clear HSN
                go_wp2_with fail
                clear hwr
                go_roundw
                case rel => exact ⟨k + 1, by omega, by go_num, ⟨s + 1, by omega, by go_num, HS2⟩, HV, HB0⟩
                case measure => simp [RowKit.intOf]; omega
              · have hk1' : (kd == 1) = false := Ru.eq_f hk1
                have HS2 : Hid (s = Pr.spaces (ps.take (k + 1))) := Lib.hid (by rw [HSN.out, if_neg hk1]; omega)
                clear HSN hk1
                go_wp2_with fail
                go_roundw
                case rel => exact ⟨k + 1, by omega, by go_num, ⟨s, by omega, rfl, HS2⟩, HV, HB0⟩
                case measure => simp [RowKit.intOf]; omega
        · obtain rfl : k = us.length := by omega
          have C3 := Lib.hid (CP.out _ HB.out)
          have hasc : Pr.Asc (Pr.prL none ps) s := by
            have hall : ∀ p ∈ ps, ∀ c ∈ p.2.1, c < 128 := fun p hp => by
              obtain ⟨j, hj, rfl⟩ := List.mem_iff_getElem.1 hp
              have h1 := HK.out j (by rw [HL.out]; exact hj)
              rw [HPS.out, Pr.tk_map hj, Pr.pt_eq hj] at h1
              have ho := (Pr.Right.all HRT.out _ hp).1
              refine Pr.low_txt (fun c hc => (ho c hc).1) (fun x hx => ?_)
              have := Pr.low_mem h1 x
              unfold Pr.toTok at this
              rw [Pr.str_bs] at this
              exact this hx
            have := Pr.asc_prL ps none (Pr.Right.all HRT.out) hall
            rw [HS.out, HL.out, List.take_length]
            exact this
          have hbs : Ru.bs (Tk.str (Pr.prL none ps)) = Pr.prL none ps := by rw [Pr.str_bs, Pr.wr_asc' hasc.1]
          have hxz : (Tk.str (Pr.prL none ps)).size ≤ 90000 := by
            rw [str_size]
            have := Pr.prL_len (Pr.right_pt HRT.out) (fun j hj => by
              have := HF.out.2 j (by rw [HL.out]; exact hj)
              rw [HPS.out, Pr.tk_map hj] at this
              rw [← Pr.str_bs, Ru.bs_len]
              exact this) ps.length (Nat.le_refl _)
            rw [List.take_length] at this
            have := HL.out
            omega
          obtain ⟨X, hX⟩ : ∃ X, X = Tk.str (Pr.prL none ps) := ⟨_, rfl⟩
          rw [← hX] at hbs hxz C3
          have HA : Hid (Pr.Asc (Ru.bs X) s) := Lib.hid (by rw [hbs]; exact hasc)
          clear hasc hbs hX HS
          go_upto_region 17 with (go_at_call 12; ((with_reducible refine (C3.out).mono ?_); rintro e w4 ⟨rfl, b4⟩; have HB4 := Lib.hid (below_next HB.out b4); clear b4 C3))
          go_wp2_with fail
          go_loopw [3, 47] (fun v3 v47 wi => ∃ i : Nat, i ≤ X.size ∧ v47 = .int .i64 i ∧ (∃ c : Nat, c ≤ s ∧ v3 = .int .i64 ((s : Int) - c) ∧ Hid (c = ((Ru.bs X).take i).count 10)) ∧ wi = w4) (fun _ v47 _ => X.size - (RowKit.intOf v47).toNat)
          case atStart => exact ⟨0, Nat.zero_le _, rfl, ⟨0, Nat.zero_le _, by simp, Lib.hid (by simp)⟩, rfl⟩
          case round =>
            obtain ⟨i, hi, rfl, ⟨c, hcs, rfl, HC⟩, rfl⟩ := hrel
            by_cases hit : i < X.size
            · have HG := Lib.hid (Ru.bs_get X i hit)
              have h128 : (X[i].toNat : Int) ≤ 127 := by
                rw [← HG.out, Ru.g_eq (by rw [Ru.bs_len]; exact hit)]
                exact (HA.out.1 _ (List.getElem_mem _)).2
              have hcn := Pr.count_next (l := Ru.bs X) (k := i) (by rw [Ru.bs_len]; exact hit)
              rw [HG.out, ← HC.out] at hcn
              have hcle : ((Ru.bs X).take (i + 1)).count 10 ≤ s := by
                rw [← HA.out.2]
                exact List.Sublist.count_le 10 (List.take_sublist _ _)
              have HCN := Lib.hid hcn
              by_cases h10 : (X[i].toNat : Int) = 10
              · have e10 : ((X[i].toNat : Int) == 10) = true := Ru.eq_t h10
                rw [if_pos h10] at hcn
                have hcs2 : c + 1 ≤ s := by omega
                have HV : Hid (c + 1 = ((Ru.bs X).take (i + 1)).count 10) := Lib.hid hcn.symm
                have hwr : IntKind.i64.wrap ((s : Int) - c - 1) = (s : Int) - c - 1 := IntWalk.i64_in _ (by omega)
                clear HCN hcn h10 hcle
                go_wp2_with fail
                clear hwr
                go_roundw
                case rel => exact ⟨i + 1, hit, by go_num, ⟨c + 1, hcs2, by congr 1; omega, HV⟩, trivial⟩
                case measure => simp [RowKit.intOf]; omega
              · have e10 : ((X[i].toNat : Int) == 10) = false := Ru.eq_f h10
                rw [if_neg h10] at hcn
                have HV : Hid (c = ((Ru.bs X).take (i + 1)).count 10) := Lib.hid hcn.symm
                clear HCN hcn h10 hcle
                go_wp2_with fail
                go_roundw
                case rel => exact ⟨i + 1, hit, by go_num, ⟨c, hcs, rfl, HV⟩, trivial⟩
                case measure => simp [RowKit.intOf]; omega
            · obtain rfl : i = X.size := by omega
              have hce : c = s := by
                have := HC.out
                rw [← Ru.bs_len, List.take_length, HA.out.2] at this
                exact this
              subst hce
              have hz : ((c : Int) - c == 0) = true := Ru.eq_t (by omega)
              have C6 := Lib.hid (CA.out _ HB4.out)
              go_wp2_with (go_at_call 7; ((with_reducible refine (C6.out).mono ?_); rintro e w7 ⟨rfl, b7⟩; have HB7 := Lib.hid (below_next HB4.out b7); clear b7))
              go_ret
              exact ⟨rfl, HB7.out⟩
    · have CR := Lib.hid (rright_any us hF false (by simp [hR]) A cap w h)
      clear hR hF h hT hw
      go_enter Tryd.func5, Tryd.ntmps5
      go_wp2_with (first | (go_at_call 6; ((with_reducible refine (CF.out).mono ?_); rintro e w1 ⟨rfl, rfl⟩)) | (go_at_call 11; ((with_reducible refine (CR.out).mono ?_); rintro e w2 ⟨rfl, b2⟩; have HB2 := Lib.hid b2; have C6 := Lib.hid (CA.out _ HB2.out); clear b2 CR)) | (go_at_call 7; ((with_reducible refine (C6.out).mono ?_); rintro e w7 ⟨rfl, b7⟩; have HB7 := Lib.hid (below_next HB2.out b7); clear b7)))
      go_ret
      exact ⟨rfl, HB7.out⟩
  · have CF := Lib.hid (few_any us hn false (by simp [hF]) A cap w h)
    have C6 := Lib.hid (CA.out _ (Below.refl _ _))
    clear hF h hT hw
    go_enter Tryd.func5, Tryd.ntmps5
    go_wp2_with (first | (go_at_call 6; ((with_reducible refine (CF.out).mono ?_); rintro e w1 ⟨rfl, rfl⟩)) | (go_at_call 7; ((with_reducible refine (C6.out).mono ?_); rintro e w7 ⟨rfl, b7⟩; have HB7 := Lib.hid b7; clear b7)))
    go_ret
    exact ⟨rfl, HB7.out⟩
end Go.Proofs.YtgcmjkimiakibaaDoor
