/-
  The walk of package value's item.
-/
import Derived.Test.YtaofkaehhikfaaaGaf
set_option maxHeartbeats 16000000
set_option maxRecDepth 100000
namespace Go.Proofs.Ytaofkaehhikfaaa
open Go.RowKit Vl
namespace Vl
open Tk Ns
theorem seg_in {L : List Tok} {a z : Nat} {t : Tok} (h : t ∈ seg L a z) : t ∈ L := List.mem_of_mem_drop (List.mem_of_mem_take h)
theorem arg_in {L : List Tok} {x : Nat} {t : Tok} (h : t ∈ arg L x) : t ∈ L := by
 unfold arg at h
 split at h
 ·cases h
 ·exact seg_in h
theorem arg_le (L : List Tok) (x : Nat) : (arg L x).length <= L.length := by
 unfold arg
 split
 ·simp
 ·unfold seg; simp; omega
theorem alt_in : ∀ (n : Nat) (m : List Tok), m.length <= n -> ∀ l, alt m = some l -> l.length <= m.length /\ ∀ t ∈ l, t ∈ m
 | _, [], _, l, h => by rw [alt] at h; cases h
 | 0, t :: l, hn, _, _ => by simp at hn
 | n + 1, [x], _, l, h => by
   rw [alt] at h
   split at h
   ·cases h
   ·cases h; exact ⟨Nat.le_refl _, fun t ht => ht⟩
 | n + 1, x :: c :: r, hn, l, h => by
   rw [alt] at h
   split at h
   ·cases h
   ·cases hr : alt r with
    | none => rw [hr] at h; cases h
    | some q =>
      rw [hr] at h
      cases h
      have ih := alt_in n r (by simp at hn; omega) q hr
      refine ⟨by simp; omega, fun t ht => ?_⟩
      rcases List.mem_cons.1 ht with rfl | ht
      ·simp
      ·have := ih.2 t ht
       simp [this]
theorem args_in {m l : List Tok} (h : args m = some l) : l.length <= m.length /\ ∀ t ∈ l, t ∈ m := by
 unfold args at h
 split at h
 ·cases h; exact ⟨by simp, fun t ht => by cases ht⟩
 ·exact alt_in _ m (Nat.le_refl _) l h
theorem isO_3 {t : Tok} (h : t.1 = 3) : isO t := by
 unfold isO clo
 rw [if_pos (.inl h)]
 decide
end Vl
def Mkr (own : Bool) (f : ByteArray) (b1 b2 : Nat) (V : Value) : Prop :=
 (∃ i, V = fnV i /\ (i = 64 ∨ i = 65 ∨ i = 67 ∨ i = 44) /\ ∀ W (l : List Tk.Tok) (A : Option Addr) (c : Nat), l.length <= 1000 -> (∀ x ∈ l, x.2.1.size <= 90000) -> l.length <= c -> Ts W W.heap.size A l -> Calls Try.prog i #[.slice A l.length c] W (ItIs (mk own f l) W)) ∨
 (∃ b kd, V = clV b /\ (b = b1 /\ kd = 4 ∨ b = b2 /\ kd = 5) /\ ∀ l, mk own f l = mkAssigned kd l)
theorem mk_look (own : Bool) (f : ByteArray) (b1 b2 : Nat) :
 (∃ V, Vl.look (mkT b1 b2 ++ if own = true then [(wContent, fnV 44)] else []) f = some V /\ Mkr own f b1 b2 V) ∨ (Vl.look (mkT b1 b2 ++ if own = true then [(wContent, fnV 44)] else []) f = none /\ ∀ l, mk own f l = none) := by
 unfold mkT
 simp only [List.cons_append, List.nil_append]
 by_cases h1 : wCounter = f
 ·subst h1
  exact .inl ⟨_, if_pos rfl, .inl ⟨_, rfl, .inl rfl, fun W l A c hm hs hc hT => by rw [show mk own wCounter l = mkCounter l from if_pos rfl]; exact ccounter_any l hm hs A c hc W hT⟩⟩
 by_cases h2 : wCounters = f
 ·subst h2
  exact .inl ⟨_, by rw [Vl.look, if_neg h1, Vl.look, if_pos rfl], .inl ⟨_, rfl, .inr (.inl rfl), fun W l A c hm hs hc hT => by rw [show mk own wCounters l = mkCounters l by unfold mk; rw [if_neg (fun h => h1 h.symm), if_pos rfl]]; exact ccounters_any l hm hs A c hc W hT⟩⟩
 by_cases h3 : wString = f
 ·subst h3
  exact .inl ⟨_, by rw [Vl.look, if_neg h1, Vl.look, if_neg h2, Vl.look, if_pos rfl], .inr ⟨_, 4, rfl, .inl ⟨rfl, rfl⟩, fun l => by unfold mk; rw [if_neg (fun h => h1 h.symm), if_neg (fun h => h2 h.symm), if_pos rfl]⟩⟩
 by_cases h4 : wElement = f
 ·subst h4
  exact .inl ⟨_, by rw [Vl.look, if_neg h1, Vl.look, if_neg h2, Vl.look, if_neg h3, Vl.look, if_pos rfl], .inr ⟨_, 5, rfl, .inr ⟨rfl, rfl⟩, fun l => by unfold mk; rw [if_neg (fun h => h1 h.symm), if_neg (fun h => h2 h.symm), if_neg (fun h => h3 h.symm), if_pos rfl]⟩⟩
 by_cases h5 : wAttr = f
 ·subst h5
  exact .inl ⟨_, by rw [Vl.look, if_neg h1, Vl.look, if_neg h2, Vl.look, if_neg h3, Vl.look, if_neg h4, Vl.look, if_pos rfl], .inl ⟨_, rfl, .inr (.inr (.inl rfl)), fun W l A c hm hs hc hT => by rw [show mk own wAttr l = mkAttr l by unfold mk; rw [if_neg (fun h => h1 h.symm), if_neg (fun h => h2 h.symm), if_neg (fun h => h3 h.symm), if_neg (fun h => h4 h.symm), if_pos rfl]]; exact cattribute_any l hm hs A c hc W hT⟩⟩
 have hmk : ∀ l, mk own f l = if own = true /\ f = wContent then mkWhole l else none := fun l => by unfold mk; rw [if_neg (fun h => h1 h.symm), if_neg (fun h => h2 h.symm), if_neg (fun h => h3 h.symm), if_neg (fun h => h4 h.symm), if_neg (fun h => h5 h.symm)]
 rw [Vl.look, if_neg h1, Vl.look, if_neg h2, Vl.look, if_neg h3, Vl.look, if_neg h4, Vl.look, if_neg h5]
 by_cases h6 : own = true /\ wContent = f
 ·obtain ⟨h6, h7⟩ := h6
  subst h7
  rw [if_pos h6]
  exact .inl ⟨_, by rw [Vl.look, if_pos rfl], .inl ⟨_, rfl, .inr (.inr (.inr rfl)), fun W l A c hm hs hc hT => by rw [hmk, if_pos ⟨h6, rfl⟩]; exact cwhole_any l hm hs A c hc W hT⟩⟩
 ·refine .inr ⟨?_, fun l => by rw [hmk, if_neg (fun h => h6 ⟨h.1, h.2.symm⟩)]⟩
  by_cases ho : own = true
  ·rw [if_pos ho, Vl.look, if_neg (fun h => h6 ⟨ho, h⟩)]; rfl
  ·rw [if_neg ho]; rfl
end Go.Proofs.Ytaofkaehhikfaaa
namespace Go.Proofs.Ytaofkaehhikfaaa
open Go.RowKit Vl
theorem item_start (w : World) (A C : Option Addr) (n c d : Nat) : ∃ W0, (w.alloc (vtO A C n c d)).alloc (itO 0 ⟨#[]⟩ ⟨#[]⟩ 0 0) = W0 /\ Below w.heap.size w W0 /\ W0.heap[w.heap.size]? = some (vtO A C n c d) /\ W0.heap[w.heap.size + 1]? = some (itO 0 ⟨#[]⟩ ⟨#[]⟩ 0 0) /\ W0.heap.size = w.heap.size + 2 := by
 refine ⟨_, rfl, ((Below.refl _ _).alloc (Nat.le_refl _) _).alloc (by simp) _, ?_, ?_, by simp⟩
 ·exact (heap_alloc_old _ _ (by simp)).trans (heap_alloc_new w _)
 ·have := heap_alloc_new (w.alloc (vtO A C n c d)) (itO 0 ⟨#[]⟩ ⟨#[]⟩ 0 0)
  simpa using this
theorem zero_mk (w : World) : (zeroValue 80).run Try.prog w = .ok .nilFunc w := by
 kernel_rfl
theorem fnm_yes {L : List Tk.Tok} {x : Nat} (h3 : (Tk.tk L x).1 = 3) (he : Ru.g (Ns.ends L) x ≠ L.length) : fnm L x = Ru.lowS (Tk.tk L x).2.1 := if_pos ⟨h3, he⟩
theorem itmAt_text {own : Bool} {L : List Tk.Tok} {x : Nat} (h : (Tk.tk L x).1 = 6) : itmAt own L x = some (1, (Tk.tk L x).2.1, ⟨#[]⟩, 0, 0) := by
 unfold itmAt
 rw [if_neg (fun c => isO_6 c.1 h)]
 exact if_pos h
theorem itmAt_none {own : Bool} {L : List Tk.Tok} {x : Nat} (h6 : (Tk.tk L x).1 ≠ 6) (h : ¬ ((Tk.tk L x).1 = 3 /\ Ru.g (Ns.ends L) x ≠ L.length)) : itmAt own L x = none := by
 unfold itmAt
 split
 ·rfl
 ·rename_i hn
  have h3 : (Tk.tk L x).1 ≠ 3 := fun h3 => h ⟨h3, fun he => hn ⟨isO_3 h3, he⟩⟩
  show itm own (Tk.tk L x, arg L x) = none
  unfold itm
  rw [if_neg h6, if_neg h3]
theorem itmAt_mk {own : Bool} {L : List Tk.Tok} {x : Nat} (h3 : (Tk.tk L x).1 = 3) (he : Ru.g (Ns.ends L) x ≠ L.length) : itmAt own L x = (args (arg L x)).bind (mk own (Ru.lowS (Tk.tk L x).2.1)) := by
 unfold itmAt
 rw [if_neg (fun c => he c.2)]
 show itm own (Tk.tk L x, arg L x) = _
 unfold itm
 rw [if_neg (by omega : ¬ (Tk.tk L x).1 = 6), if_pos h3]
theorem look_none (own : Bool) (b1 b2 : Nat) : Vl.look (mkT b1 b2 ++ if own = true then [(wContent, fnV 44)] else []) ⟨#[]⟩ = none := by
 rcases mk_look own ⟨#[]⟩ b1 b2 with ⟨V, h, _⟩ | ⟨h, _⟩
 ·cases own <;> exact absurd h (by simp [Vl.look, mkT])
 ·exact h
theorem citem_any (own : Bool) (L : List Tk.Tok) (hm : L.length <= 1000) (hs : ∀ x ∈ L, x.2.1.size <= 90000) (A C : Option Addr) (c d : Nat) (x : Nat) (hx : x < L.length) (M b1 b2 : Nat) (w : World) (h : Vt w L A C c d) (hkn : Kn own M b1 b2 w) :
 Calls Try.prog 63 #[vtV A C L.length c d, .int .i64 x, .map (some M)] w (ItIs (itmAt own L x) w) := by
 obtain ⟨W0, hW, hb0, kp, kr, hsz⟩ := item_start w A C L.length c d
 have HB := Lib.hid hb0
 have HK := Lib.hid kr
 have HP := Lib.hid kp
 have HW := Lib.hid hW
 have HT := Lib.hid (hkn.next hb0)
 have HV := Lib.hid (h.next hb0)
 have hlt0 : w.heap.size < W0.heap.size := by omega
 have hlt1 : w.heap.size + 1 < W0.heap.size := by omega
 clear hb0 kp kr hW h hkn
 obtain ⟨p0, p1⟩ := two_cells HP.out
 obtain ⟨⟨r0, r1, r2, r3, r4⟩, rz⟩ := five_cells HK.out
 have hcap := HV.out.hc
 obtain ⟨bt, ot, hAe, hbt, hct⟩ := HV.out.ts (by omega)
 subst hAe
 obtain ⟨q0, q1, q2⟩ := hct x hx
 clear hct
 by_cases h6 : (Tk.tk L x).1 = 6
 ·have e6 : ((Tk.tk L x).1 == 6) = true := beq_iff_eq.2 h6
  have HX := Lib.hid (itmAt_text (own := own) h6)
  clear h6
  generalize Tk.tk L x = u at *
  obtain ⟨kd, tx, num⟩ := u
  simp only at *
  go_enter Try.func63, Try.ntmps63
  go_upto_region 1 with fail
  rw [HW.out]
  clear HW
  go_wp2_with fail
  exact bodyPost_ret (v := .tuple #[itV (1, tx, ⟨#[]⟩, 0, 0), .bool true]) (by simp [results, Try.results63, go_sem, r0, r1, r2, r3, r4]) rfl ⟨(1, tx, ⟨#[]⟩, 0, 0), true, rfl, below_set5 HB.out (by omega) _ _ _ _ _, HX.out⟩
 ·have e6 : ((Tk.tk L x).1 == 6) = false := beq_false_of_ne h6
  have CF : Hid (Calls Try.prog 54 #[vtV (some ⟨bt, ot, none⟩) C L.length c d, .int .i64 x] W0 (Sg (fnm L x) W0)) := Lib.hid (cfunction_any L hm hs _ C c d x hx W0 HV.out)
  by_cases h3 : (Tk.tk L x).1 = 3 /\ Ru.g (Ns.ends L) x ≠ L.length
  ·have HN := Lib.hid (fnm_yes h3.1 h3.2)
   have HX := Lib.hid (itmAt_mk (own := own) h3.1 h3.2)
   have hO : Ns.isO (Tk.tk L x) := isO_3 h3.1
   have hends : ∃ e : Nat, Ru.g (Ns.ends L) x = (e : Int) /\ e < L.length := by
    have hr := Ns.ends_range (ts := L) hx
    have hg : Ru.g (Ns.ends L) x = (Ns.ends L).getD x 0 := rfl
    rcases hr with h | h
    ·exact absurd hO h.1
    ·exact ⟨(Ru.g (Ns.ends L) x).toNat, by omega, by have := h3.2; omega⟩
   obtain ⟨e, he, hle⟩ := hends
   have CG : Hid (∀ W, Below W0.heap.size W0 W -> Calls Try.prog 56 #[vtV (some ⟨bt, ot, none⟩) C L.length c d, .int .i64 x] W (AgIs (args (arg L x)) W)) := Lib.hid fun W hb => carguments_any L hm _ C c d x e hx hO he hle W (HV.out.next hb)
   have HAL : Hid (∀ l, args (arg L x) = some l -> l.length <= 1000 /\ ∀ y ∈ l, y.2.1.size <= 90000) := Lib.hid fun l hl => by
    have h := args_in hl
    have h2 := arg_le L x
    exact ⟨by omega, fun y hy => hs y (arg_in (h.2 y hy))⟩
   have HWW : Hid (Below W0.heap.size W0 W0) := Lib.hid (Below.refl _ _)
   clear h3 hO he hle e
   rw [HN.out] at CF
   clear HN
   generalize Ru.lowS (Tk.tk L x).2.1 = f at *
   generalize itmAt own L x = res at *
   generalize args (arg L x) = ag at *
   generalize Tk.tk L x = u at *
   obtain ⟨kd, tx, num⟩ := u
   simp only at *
   rcases mk_look own f b1 b2 with ⟨V, hV, hM⟩ | ⟨hN, hmk⟩
   ·have HL := Lib.hid hV
    clear hV
    cases ag with
    | none =>
      have HX2 : Hid (res = none) := Lib.hid HX.out
      have CG2 : Hid (∀ W, Below W0.heap.size W0 W -> Calls Try.prog 56 #[vtV (some ⟨bt, ot, none⟩) C L.length c d, .int .i64 x] W (NoPr W)) := Lib.hid fun W hb => (CG.out W hb).mono fun e w' h => h.2 rfl
      clear HX CG HAL hM
      go_enter Try.func63, Try.ntmps63
      go_upto_region 1 with fail
      rw [HW.out]
      clear HW
      go_wp2_with (first | (go_at_call 54; ((with_reducible refine (CF.out).mono ?_); rintro e w1 ⟨rfl, bb⟩; have HWW := Lib.hid (below_next HWW.out bb); have HB := Lib.hid (below_next HB.out bb); have HK := Lib.hid (below_block bb HK.out); have HP := Lib.hid (below_block bb HP.out); obtain ⟨⟨r0, r1, r2, r3, r4⟩, rz⟩ := five_cells HK.out; obtain ⟨p0, p1⟩ := two_cells HP.out; have HT := Lib.hid (HT.out.next bb); have HV := Lib.hid (HV.out.next bb); clear bb)) | (at_lookup; refine wpList_lookS rfl _ _ 64 rfl 9 80 Try.underlying64 Try.underlying9 .nilFunc (zero_mk _) M _ rfl HT.out.map _ rfl V true HL.out (fun h => (by cases h)) ?_) | (go_at_call 56; ((with_reducible refine (CG2.out _ HWW.out).mono ?_); rintro e w2 ⟨rfl, bb⟩; have HB := Lib.hid (below_next HB.out bb); have HK := Lib.hid (below_block bb HK.out); have HP := Lib.hid (below_block bb HP.out); obtain ⟨⟨r0, r1, r2, r3, r4⟩, rz⟩ := five_cells HK.out; obtain ⟨p0, p1⟩ := two_cells HP.out; clear bb)))
      exact bodyPost_ret (v := .tuple #[itV (0, ⟨#[]⟩, ⟨#[]⟩, 0, 0), .bool false]) (by simp [results, Try.results63, go_sem, r0, r1, r2, r3, r4]) rfl ⟨(0, ⟨#[]⟩, ⟨#[]⟩, 0, 0), false, rfl, below_set5 HB.out (by omega) _ _ _ _ _, HX2.out⟩
    | some l =>
      have HX2 : Hid (res = mk own f l) := Lib.hid HX.out
      have CG2 : Hid (∀ W, Below W0.heap.size W0 W -> Calls Try.prog 56 #[vtV (some ⟨bt, ot, none⟩) C L.length c d, .int .i64 x] W (AgYes l W)) := Lib.hid fun W hb => (CG.out W hb).mono fun e w' h => h.1 l rfl
      have hal := HAL.out l rfl
      clear HX CG HAL
      rcases hM with ⟨i, rfl, hi, hM⟩ | ⟨b, kd', rfl, hb', hM⟩
      ·have CM : Hid (∀ W A c, l.length <= c -> Ts W W.heap.size A l -> Calls Try.prog i #[.slice A l.length c] W (ItIs (mk own f l) W)) := Lib.hid fun W A c hc hT => hM W l A c hal.1 hal.2 hc hT
       clear hM
       rcases hi with rfl | rfl | rfl | rfl
       ·go_enter Try.func63, Try.ntmps63
        go_upto_region 1 with fail
        rw [HW.out]
        clear HW
        go_wp2_with (first | (go_at_call 54; ((with_reducible refine (CF.out).mono ?_); rintro e w1 ⟨rfl, bb⟩; have HWW := Lib.hid (below_next HWW.out bb); have HB := Lib.hid (below_next HB.out bb); have HK := Lib.hid (below_block bb HK.out); have HP := Lib.hid (below_block bb HP.out); obtain ⟨⟨r0, r1, r2, r3, r4⟩, rz⟩ := five_cells HK.out; obtain ⟨p0, p1⟩ := two_cells HP.out; have HT := Lib.hid (HT.out.next bb); have HV := Lib.hid (HV.out.next bb); clear bb)) | (at_lookup; refine wpList_lookS rfl _ _ 64 rfl 9 80 Try.underlying64 Try.underlying9 .nilFunc (zero_mk _) M _ rfl HT.out.map _ rfl (fnV 64) true HL.out (fun h => (by cases h)) ?_) | (go_at_call 56; ((with_reducible refine (CG2.out _ HWW.out).mono ?_); rintro e w2 ⟨A2, c2, rfl, hc2, T2, bb⟩; have HB := Lib.hid (below_next HB.out bb); have HK := Lib.hid (below_block bb HK.out); have HP := Lib.hid (below_block bb HP.out); obtain ⟨⟨r0, r1, r2, r3, r4⟩, rz⟩ := five_cells HK.out; obtain ⟨p0, p1⟩ := two_cells HP.out; have HT2 := Lib.hid T2; have HT := Lib.hid (HT.out.next bb); clear bb T2)) | (go_at_call 64; ((with_reducible refine (CM.out _ _ _ hc2 HT2.out).mono ?_); rintro e w3 ⟨it, bo, rfl, bb, hit⟩; have HB := Lib.hid (below_next HB.out bb); have HK := Lib.hid (below_block bb HK.out); have HP := Lib.hid (below_block bb HP.out); obtain ⟨⟨r0, r1, r2, r3, r4⟩, rz⟩ := five_cells HK.out; obtain ⟨p0, p1⟩ := two_cells HP.out; have HIT := Lib.hid hit; clear bb hit)))
        exact bodyPost_ret (v := .tuple #[itV it, .bool bo]) (by simp [results, Try.results63, go_sem, r0, r1, r2, r3, r4]) rfl ⟨it, bo, rfl, below_set5 HB.out (by omega) _ _ _ _ _, by rw [HX2.out]; exact HIT.out⟩
       ·go_enter Try.func63, Try.ntmps63
        go_upto_region 1 with fail
        rw [HW.out]
        clear HW
        go_wp2_with (first | (go_at_call 54; ((with_reducible refine (CF.out).mono ?_); rintro e w1 ⟨rfl, bb⟩; have HWW := Lib.hid (below_next HWW.out bb); have HB := Lib.hid (below_next HB.out bb); have HK := Lib.hid (below_block bb HK.out); have HP := Lib.hid (below_block bb HP.out); obtain ⟨⟨r0, r1, r2, r3, r4⟩, rz⟩ := five_cells HK.out; obtain ⟨p0, p1⟩ := two_cells HP.out; have HT := Lib.hid (HT.out.next bb); have HV := Lib.hid (HV.out.next bb); clear bb)) | (at_lookup; refine wpList_lookS rfl _ _ 64 rfl 9 80 Try.underlying64 Try.underlying9 .nilFunc (zero_mk _) M _ rfl HT.out.map _ rfl (fnV 65) true HL.out (fun h => (by cases h)) ?_) | (go_at_call 56; ((with_reducible refine (CG2.out _ HWW.out).mono ?_); rintro e w2 ⟨A2, c2, rfl, hc2, T2, bb⟩; have HB := Lib.hid (below_next HB.out bb); have HK := Lib.hid (below_block bb HK.out); have HP := Lib.hid (below_block bb HP.out); obtain ⟨⟨r0, r1, r2, r3, r4⟩, rz⟩ := five_cells HK.out; obtain ⟨p0, p1⟩ := two_cells HP.out; have HT2 := Lib.hid T2; have HT := Lib.hid (HT.out.next bb); clear bb T2)) | (go_at_call 65; ((with_reducible refine (CM.out _ _ _ hc2 HT2.out).mono ?_); rintro e w3 ⟨it, bo, rfl, bb, hit⟩; have HB := Lib.hid (below_next HB.out bb); have HK := Lib.hid (below_block bb HK.out); have HP := Lib.hid (below_block bb HP.out); obtain ⟨⟨r0, r1, r2, r3, r4⟩, rz⟩ := five_cells HK.out; obtain ⟨p0, p1⟩ := two_cells HP.out; have HIT := Lib.hid hit; clear bb hit)))
        exact bodyPost_ret (v := .tuple #[itV it, .bool bo]) (by simp [results, Try.results63, go_sem, r0, r1, r2, r3, r4]) rfl ⟨it, bo, rfl, below_set5 HB.out (by omega) _ _ _ _ _, by rw [HX2.out]; exact HIT.out⟩
       ·go_enter Try.func63, Try.ntmps63
        go_upto_region 1 with fail
        rw [HW.out]
        clear HW
        go_wp2_with (first | (go_at_call 54; ((with_reducible refine (CF.out).mono ?_); rintro e w1 ⟨rfl, bb⟩; have HWW := Lib.hid (below_next HWW.out bb); have HB := Lib.hid (below_next HB.out bb); have HK := Lib.hid (below_block bb HK.out); have HP := Lib.hid (below_block bb HP.out); obtain ⟨⟨r0, r1, r2, r3, r4⟩, rz⟩ := five_cells HK.out; obtain ⟨p0, p1⟩ := two_cells HP.out; have HT := Lib.hid (HT.out.next bb); have HV := Lib.hid (HV.out.next bb); clear bb)) | (at_lookup; refine wpList_lookS rfl _ _ 64 rfl 9 80 Try.underlying64 Try.underlying9 .nilFunc (zero_mk _) M _ rfl HT.out.map _ rfl (fnV 67) true HL.out (fun h => (by cases h)) ?_) | (go_at_call 56; ((with_reducible refine (CG2.out _ HWW.out).mono ?_); rintro e w2 ⟨A2, c2, rfl, hc2, T2, bb⟩; have HB := Lib.hid (below_next HB.out bb); have HK := Lib.hid (below_block bb HK.out); have HP := Lib.hid (below_block bb HP.out); obtain ⟨⟨r0, r1, r2, r3, r4⟩, rz⟩ := five_cells HK.out; obtain ⟨p0, p1⟩ := two_cells HP.out; have HT2 := Lib.hid T2; have HT := Lib.hid (HT.out.next bb); clear bb T2)) | (go_at_call 67; ((with_reducible refine (CM.out _ _ _ hc2 HT2.out).mono ?_); rintro e w3 ⟨it, bo, rfl, bb, hit⟩; have HB := Lib.hid (below_next HB.out bb); have HK := Lib.hid (below_block bb HK.out); have HP := Lib.hid (below_block bb HP.out); obtain ⟨⟨r0, r1, r2, r3, r4⟩, rz⟩ := five_cells HK.out; obtain ⟨p0, p1⟩ := two_cells HP.out; have HIT := Lib.hid hit; clear bb hit)))
        exact bodyPost_ret (v := .tuple #[itV it, .bool bo]) (by simp [results, Try.results63, go_sem, r0, r1, r2, r3, r4]) rfl ⟨it, bo, rfl, below_set5 HB.out (by omega) _ _ _ _ _, by rw [HX2.out]; exact HIT.out⟩
       ·go_enter Try.func63, Try.ntmps63
        go_upto_region 1 with fail
        rw [HW.out]
        clear HW
        go_wp2_with (first | (go_at_call 54; ((with_reducible refine (CF.out).mono ?_); rintro e w1 ⟨rfl, bb⟩; have HWW := Lib.hid (below_next HWW.out bb); have HB := Lib.hid (below_next HB.out bb); have HK := Lib.hid (below_block bb HK.out); have HP := Lib.hid (below_block bb HP.out); obtain ⟨⟨r0, r1, r2, r3, r4⟩, rz⟩ := five_cells HK.out; obtain ⟨p0, p1⟩ := two_cells HP.out; have HT := Lib.hid (HT.out.next bb); have HV := Lib.hid (HV.out.next bb); clear bb)) | (at_lookup; refine wpList_lookS rfl _ _ 64 rfl 9 80 Try.underlying64 Try.underlying9 .nilFunc (zero_mk _) M _ rfl HT.out.map _ rfl (fnV 44) true HL.out (fun h => (by cases h)) ?_) | (go_at_call 56; ((with_reducible refine (CG2.out _ HWW.out).mono ?_); rintro e w2 ⟨A2, c2, rfl, hc2, T2, bb⟩; have HB := Lib.hid (below_next HB.out bb); have HK := Lib.hid (below_block bb HK.out); have HP := Lib.hid (below_block bb HP.out); obtain ⟨⟨r0, r1, r2, r3, r4⟩, rz⟩ := five_cells HK.out; obtain ⟨p0, p1⟩ := two_cells HP.out; have HT2 := Lib.hid T2; have HT := Lib.hid (HT.out.next bb); clear bb T2)) | (go_at_call 44; ((with_reducible refine (CM.out _ _ _ hc2 HT2.out).mono ?_); rintro e w3 ⟨it, bo, rfl, bb, hit⟩; have HB := Lib.hid (below_next HB.out bb); have HK := Lib.hid (below_block bb HK.out); have HP := Lib.hid (below_block bb HP.out); obtain ⟨⟨r0, r1, r2, r3, r4⟩, rz⟩ := five_cells HK.out; obtain ⟨p0, p1⟩ := two_cells HP.out; have HIT := Lib.hid hit; clear bb hit)))
        exact bodyPost_ret (v := .tuple #[itV it, .bool bo]) (by simp [results, Try.results63, go_sem, r0, r1, r2, r3, r4]) rfl ⟨it, bo, rfl, below_set5 HB.out (by omega) _ _ _ _ _, by rw [HX2.out]; exact HIT.out⟩
      ·have CM : Hid (∀ W A c, l.length <= c -> Ts W W.heap.size A l -> Kn own M b1 b2 W -> Calls Try.prog 84 #[.slice A l.length c, .pointer (some ⟨b, 0, none⟩)] W (ItIs (mk own f l) W)) := Lib.hid fun W A c hc hT hk => by
        rw [hM]
        rcases hb' with ⟨rfl, rfl⟩ | ⟨rfl, rfl⟩
        ·exact cassigned_any l hal.1 hal.2 A c hc 4 _ W hT hk.l1 hk.k1
        ·exact cassigned_any l hal.1 hal.2 A c hc 5 _ W hT hk.l2 hk.k2
       clear hM
       go_enter Try.func63, Try.ntmps63
       go_upto_region 1 with fail
       rw [HW.out]
       clear HW
       go_wp2_with (first | (go_at_call 54; ((with_reducible refine (CF.out).mono ?_); rintro e w1 ⟨rfl, bb⟩; have HWW := Lib.hid (below_next HWW.out bb); have HB := Lib.hid (below_next HB.out bb); have HK := Lib.hid (below_block bb HK.out); have HP := Lib.hid (below_block bb HP.out); obtain ⟨⟨r0, r1, r2, r3, r4⟩, rz⟩ := five_cells HK.out; obtain ⟨p0, p1⟩ := two_cells HP.out; have HT := Lib.hid (HT.out.next bb); have HV := Lib.hid (HV.out.next bb); clear bb)) | (at_lookup; refine wpList_lookS rfl _ _ 64 rfl 9 80 Try.underlying64 Try.underlying9 .nilFunc (zero_mk _) M _ rfl HT.out.map _ rfl (clV b) true HL.out (fun h => (by cases h)) ?_) | (go_at_call 56; ((with_reducible refine (CG2.out _ HWW.out).mono ?_); rintro e w2 ⟨A2, c2, rfl, hc2, T2, bb⟩; have HB := Lib.hid (below_next HB.out bb); have HK := Lib.hid (below_block bb HK.out); have HP := Lib.hid (below_block bb HP.out); obtain ⟨⟨r0, r1, r2, r3, r4⟩, rz⟩ := five_cells HK.out; obtain ⟨p0, p1⟩ := two_cells HP.out; have HT2 := Lib.hid T2; have HT := Lib.hid (HT.out.next bb); clear bb T2)) | ((with_reducible refine (CM.out _ _ _ hc2 HT2.out HT.out).mono ?_); rintro e w3 ⟨it, bo, rfl, bb, hit⟩; have HB := Lib.hid (below_next HB.out bb); have HK := Lib.hid (below_block bb HK.out); have HP := Lib.hid (below_block bb HP.out); obtain ⟨⟨r0, r1, r2, r3, r4⟩, rz⟩ := five_cells HK.out; obtain ⟨p0, p1⟩ := two_cells HP.out; have HIT := Lib.hid hit; clear bb hit))
       exact bodyPost_ret (v := .tuple #[itV it, .bool bo]) (by simp [results, Try.results63, go_sem, r0, r1, r2, r3, r4]) rfl ⟨it, bo, rfl, below_set5 HB.out (by omega) _ _ _ _ _, by rw [HX2.out]; exact HIT.out⟩
   ·have HL := Lib.hid hN
    have HX2 : Hid (res = none) := Lib.hid (by rw [HX.out]; cases ag with | none => rfl | some l => exact hmk l)
    clear hN hmk HX CG HAL
    go_enter Try.func63, Try.ntmps63
    go_upto_region 1 with fail
    rw [HW.out]
    clear HW
    go_wp2_with (first | (go_at_call 54; ((with_reducible refine (CF.out).mono ?_); rintro e w1 ⟨rfl, bb⟩; have HWW := Lib.hid (below_next HWW.out bb); have HB := Lib.hid (below_next HB.out bb); have HK := Lib.hid (below_block bb HK.out); have HP := Lib.hid (below_block bb HP.out); obtain ⟨⟨r0, r1, r2, r3, r4⟩, rz⟩ := five_cells HK.out; obtain ⟨p0, p1⟩ := two_cells HP.out; have HT := Lib.hid (HT.out.next bb); have HV := Lib.hid (HV.out.next bb); clear bb)) | (at_lookup; refine wpList_lookS rfl _ _ 64 rfl 9 80 Try.underlying64 Try.underlying9 .nilFunc (zero_mk _) M _ rfl HT.out.map _ rfl .nilFunc false HL.out (fun _ => rfl) ?_))
    exact bodyPost_ret (v := .tuple #[itV (0, ⟨#[]⟩, ⟨#[]⟩, 0, 0), .bool false]) (by simp [results, Try.results63, go_sem, r0, r1, r2, r3, r4]) rfl ⟨(0, ⟨#[]⟩, ⟨#[]⟩, 0, 0), false, rfl, below_set5 HB.out (by omega) _ _ _ _ _, HX2.out⟩
  ·have HX : Hid (itmAt own L x = none) := Lib.hid (itmAt_none h6 h3)
   have HN : Hid (fnm L x = ⟨#[]⟩) := Lib.hid (if_neg h3)
   rw [HN.out] at CF
   have HL : Hid (Vl.look (mkT b1 b2 ++ if own = true then [(wContent, fnV 44)] else []) ⟨#[]⟩ = none) := Lib.hid (look_none own b1 b2)
   clear h6 h3
   generalize Tk.tk L x = u at *
   obtain ⟨kd, tx, num⟩ := u
   simp only at *
   go_enter Try.func63, Try.ntmps63
   go_upto_region 1 with fail
   rw [HW.out]
   clear HW
   go_wp2_with (first | (go_at_call 54; ((with_reducible refine (CF.out).mono ?_); rintro e w1 ⟨rfl, bb⟩; have HB := Lib.hid (below_next HB.out bb); have HK := Lib.hid (below_block bb HK.out); have HP := Lib.hid (below_block bb HP.out); obtain ⟨⟨r0, r1, r2, r3, r4⟩, rz⟩ := five_cells HK.out; obtain ⟨p0, p1⟩ := two_cells HP.out; have HT := Lib.hid (HT.out.next bb); have HV := Lib.hid (HV.out.next bb); clear bb)) | (at_lookup; refine wpList_lookS rfl _ _ 64 rfl 9 80 Try.underlying64 Try.underlying9 .nilFunc (zero_mk _) M _ rfl HT.out.map _ rfl .nilFunc false (HL.out) (fun _ => rfl) ?_))
   exact bodyPost_ret (v := .tuple #[itV (0, ⟨#[]⟩, ⟨#[]⟩, 0, 0), .bool false]) (by simp [results, Try.results63, go_sem, r0, r1, r2, r3, r4]) rfl ⟨(0, ⟨#[]⟩, ⟨#[]⟩, 0, 0), false, rfl, below_set5 HB.out (by omega) _ _ _ _ _, HX.out⟩
end Go.Proofs.Ytaofkaehhikfaaa
namespace Go.Proofs.Ytaofkaehhikfaaa
open Go.RowKit Vl
theorem vitem_unnamed (tx : ByteArray) (num : Int) (A : Option Addr) (n cap : Nat) (w : World) (kx : Int) (sx : ByteArray) (nx : Int) (rest : List Tk.Tok) (N : Nat) (hN : 1 <= N) (hNm : N <= 1000) (CA : Hid (∀ W, Below w.heap.size w W -> Calls Try.prog 89 #[prtV (3, tx, num) A n cap] W (ArgT N ((kx, sx, nx) :: rest) W))) (CN : Hid (∀ W A n c, Calls Try.prog 43 #[prtV (kx, sx, nx) A n c] W (Bo false W))) : Calls Try.prog 70 #[prtV (3, tx, num) A n cap] w (ItIs none w) := by
 obtain ⟨W2, hW, hF⟩ : ∃ W2, ((w.alloc (prtO (3, tx, num) A n cap)).alloc (itO 0 ⟨#[]⟩ ⟨#[]⟩ 0 0)).alloc (itO 0 ⟨#[]⟩ ⟨#[]⟩ 0 0) = W2 /\ ItF w W2 (3, tx, num) A n cap := ⟨_, rfl, ItF.start w _ A n cap⟩
 have HW := Lib.hid hW
 have HF := Lib.hid hF
 obtain ⟨p0, p1, p2, p3⟩ : W2.cell? ⟨w.heap.size, 0, none⟩ = some (.int .i64 3) /\ W2.cell? ⟨w.heap.size, 1, none⟩ = some (.string tx) /\ W2.cell? ⟨w.heap.size, 2, none⟩ = some (.int .i64 num) /\ W2.cell? ⟨w.heap.size, 3, none⟩ = some (.slice A n cap) := four_cells hF.p
 clear hF hW
 go_enter Try.func70, Try.ntmps70
 go_upto_region 2 with fail
 rw [HW.out]
 clear HW
 go_wp2_with (first | (go_at_call 89; ((with_reducible refine (CA.out _ HF.out.b).mono ?_); rintro e w3 ⟨A1, c1, rfl, hc1, C1, b3⟩; have HF := Lib.hid (HF.out.next b3); obtain ⟨b, off, rfl, hb, hq⟩ := tkp_all C1 (by simp); obtain ⟨A0, n0, cp0, q00, q01, q02, q03⟩ : ∃ A0 n0 cp0, w3.cell? ⟨b, off, none⟩ = some (.int .i64 kx) /\ w3.cell? ⟨b, off + 1, none⟩ = some (.string sx) /\ w3.cell? ⟨b, off + 2, none⟩ = some (.int .i64 nx) /\ w3.cell? ⟨b, off + 3, none⟩ = some (.slice A0 n0 cp0) := hq 0 (by simp); obtain ⟨p0, p1, p2, p3⟩ : w3.cell? ⟨w.heap.size, 0, none⟩ = some (.int .i64 3) /\ w3.cell? ⟨w.heap.size, 1, none⟩ = some (.string tx) /\ w3.cell? ⟨w.heap.size, 2, none⟩ = some (.int .i64 num) /\ w3.cell? ⟨w.heap.size, 3, none⟩ = some (.slice A n cap) := four_cells HF.out.p; clear b3 hq C1)) | (go_at_call 43; ((with_reducible refine (CN.out _ _ _ _).mono ?_); rintro e w4 ⟨rfl, b4⟩; have HF := Lib.hid (HF.out.next b4); have q00 := (b4.cell (p := ⟨b, off, none⟩) hb).trans q00; have q01 := (b4.cell (p := ⟨b, off + 1, none⟩) hb).trans q01; have q02 := (b4.cell (p := ⟨b, off + 2, none⟩) hb).trans q02; have q03 := (b4.cell (p := ⟨b, off + 3, none⟩) hb).trans q03; have hb := Nat.lt_of_lt_of_le hb b4.size; obtain ⟨⟨r0, r1, r2, r3, r4⟩, rz⟩ := five_cells HF.out.r; obtain ⟨⟨z0, z1, z2, z3, z4⟩, zz⟩ := five_cells HF.out.z; clear b4)))
 exact bodyPost_ret (v := .tuple #[itV (0, ⟨#[]⟩, ⟨#[]⟩, 0, 0), .bool false]) (by simp [results, Try.results70, go_sem, r0, r1, r2, r3, r4]) rfl ⟨(0, ⟨#[]⟩, ⟨#[]⟩, 0, 0), false, rfl, below_set5 HF.out.b (by omega) _ _ _ _ _, rfl⟩
theorem vitem_attr1 (tx : ByteArray) (num : Int) (A : Option Addr) (n cap : Nat) (w : World) (kx : Int) (sx : ByteArray) (nx : Int) (CA : Hid (∀ W, Below w.heap.size w W -> Calls Try.prog 89 #[prtV (3, tx, num) A n cap] W (ArgT 1 [(kx, sx, nx)] W))) (CN : Hid (∀ W A n c, Calls Try.prog 43 #[prtV (kx, sx, nx) A n c] W (Bo true W))) (ls : ByteArray) (CL : Hid (∀ W, Calls Try.prog 52 #[prtV (3, tx, num) A n cap] W (Sg ls W))) (eattr : (ls.toList == [97, 116, 116, 114]) = true) : Calls Try.prog 70 #[prtV (3, tx, num) A n cap] w (ItIs (some (6, ⟨#[]⟩, sx, 0, 0)) w) := by
 obtain ⟨W2, hW, hF⟩ : ∃ W2, ((w.alloc (prtO (3, tx, num) A n cap)).alloc (itO 0 ⟨#[]⟩ ⟨#[]⟩ 0 0)).alloc (itO 0 ⟨#[]⟩ ⟨#[]⟩ 0 0) = W2 /\ ItF w W2 (3, tx, num) A n cap := ⟨_, rfl, ItF.start w _ A n cap⟩
 have HW := Lib.hid hW
 have HF := Lib.hid hF
 obtain ⟨p0, p1, p2, p3⟩ : W2.cell? ⟨w.heap.size, 0, none⟩ = some (.int .i64 3) /\ W2.cell? ⟨w.heap.size, 1, none⟩ = some (.string tx) /\ W2.cell? ⟨w.heap.size, 2, none⟩ = some (.int .i64 num) /\ W2.cell? ⟨w.heap.size, 3, none⟩ = some (.slice A n cap) := four_cells hF.p
 clear hF hW
 go_enter Try.func70, Try.ntmps70
 go_upto_region 2 with fail
 rw [HW.out]
 clear HW
 go_upto_region 8 with (first | (go_at_call 89; ((with_reducible refine (CA.out _ HF.out.b).mono ?_); rintro e w3 ⟨A1, c1, rfl, hc1, C1, b3⟩; have HF := Lib.hid (HF.out.next b3); obtain ⟨b, off, rfl, hb, hq⟩ := tkp_all C1 (by simp); obtain ⟨A0, n0, cp0, q00, q01, q02, q03⟩ : ∃ A0 n0 cp0, w3.cell? ⟨b, off, none⟩ = some (.int .i64 kx) /\ w3.cell? ⟨b, off + 1, none⟩ = some (.string sx) /\ w3.cell? ⟨b, off + 2, none⟩ = some (.int .i64 nx) /\ w3.cell? ⟨b, off + 3, none⟩ = some (.slice A0 n0 cp0) := hq 0 (by simp); obtain ⟨p0, p1, p2, p3⟩ : w3.cell? ⟨w.heap.size, 0, none⟩ = some (.int .i64 3) /\ w3.cell? ⟨w.heap.size, 1, none⟩ = some (.string tx) /\ w3.cell? ⟨w.heap.size, 2, none⟩ = some (.int .i64 num) /\ w3.cell? ⟨w.heap.size, 3, none⟩ = some (.slice A n cap) := four_cells HF.out.p; clear b3 hq C1)) | (go_at_call 43; ((with_reducible refine (CN.out _ _ _ _).mono ?_); rintro e w4 ⟨rfl, b4⟩; have HF := Lib.hid (HF.out.next b4); have q00 := (b4.cell (p := ⟨b, off, none⟩) hb).trans q00; have q01 := (b4.cell (p := ⟨b, off + 1, none⟩) hb).trans q01; have q02 := (b4.cell (p := ⟨b, off + 2, none⟩) hb).trans q02; have q03 := (b4.cell (p := ⟨b, off + 3, none⟩) hb).trans q03; have hb := Nat.lt_of_lt_of_le hb b4.size; obtain ⟨p0, p1, p2, p3⟩ : w4.cell? ⟨w.heap.size, 0, none⟩ = some (.int .i64 3) /\ w4.cell? ⟨w.heap.size, 1, none⟩ = some (.string tx) /\ w4.cell? ⟨w.heap.size, 2, none⟩ = some (.int .i64 num) /\ w4.cell? ⟨w.heap.size, 3, none⟩ = some (.slice A n cap) := four_cells HF.out.p; clear b4)))
 have k7 := heap_alloc_new w4 (itO 0 ⟨#[]⟩ sx 0 0)
 have b7 := (Below.refl w4.heap.size w4).alloc (Nat.le_refl _) (itO 0 ⟨#[]⟩ sx 0 0)
 have hg7 := HF.out.lt
 have hbg := hb
 generalize w4.alloc (itO 0 ⟨#[]⟩ sx 0 0) = w7 at k7 b7 ⊢
 replace HF := Lib.hid (HF.out.next b7)
 replace q00 := (b7.cell (p := ⟨b, off, none⟩) hb).trans q00
 replace q01 := (b7.cell (p := ⟨b, off + 1, none⟩) hb).trans q01
 replace q02 := (b7.cell (p := ⟨b, off + 2, none⟩) hb).trans q02
 replace q03 := (b7.cell (p := ⟨b, off + 3, none⟩) hb).trans q03
 replace hb := Nat.lt_of_lt_of_le hb b7.size
 obtain ⟨p0, p1, p2, p3⟩ : w7.cell? ⟨w.heap.size, 0, none⟩ = some (.int .i64 3) /\ w7.cell? ⟨w.heap.size, 1, none⟩ = some (.string tx) /\ w7.cell? ⟨w.heap.size, 2, none⟩ = some (.int .i64 num) /\ w7.cell? ⟨w.heap.size, 3, none⟩ = some (.slice A n cap) := four_cells HF.out.p
 have HK := Lib.hid k7
 clear k7 b7
 go_upto_region 12 with (go_at_call 52; ((with_reducible refine (CL.out _).mono ?_); rintro e w8 ⟨rfl, b8⟩; have HF := Lib.hid (HF.out.next b8); have HK := Lib.hid (below_block b8 HK.out); have q00 := (b8.cell (p := ⟨b, off, none⟩) hb).trans q00; have q01 := (b8.cell (p := ⟨b, off + 1, none⟩) hb).trans q01; have q02 := (b8.cell (p := ⟨b, off + 2, none⟩) hb).trans q02; have q03 := (b8.cell (p := ⟨b, off + 3, none⟩) hb).trans q03; have hb := Nat.lt_of_lt_of_le hb b8.size; obtain ⟨⟨x0, x1, x2, x3, x4⟩, xz⟩ := five_cells HK.out; obtain ⟨⟨r0, r1, r2, r3, r4⟩, rz⟩ := five_cells HF.out.r; obtain ⟨⟨z0, z1, z2, z3, z4⟩, zz⟩ := five_cells HF.out.z; clear b8))
 have HK := Lib.hid (set5 HK.out (.int .i64 6)).1
 have HF := Lib.hid (HF.out.set hg7 0 (.int .i64 6))
 have q00 := (far_cell (i := 0) (v := .int .i64 6) (o := off) (W := w8) hbg).trans q00
 have q01 := (far_cell (i := 0) (v := .int .i64 6) (o := off + 1) (W := w8) hbg).trans q01
 have q02 := (far_cell (i := 0) (v := .int .i64 6) (o := off + 2) (W := w8) hbg).trans q02
 have q03 := (far_cell (i := 0) (v := .int .i64 6) (o := off + 3) (W := w8) hbg).trans q03
 have hb := Nat.lt_of_lt_of_le hb (Nat.le_of_eq (heap_setCell_size w8 ⟨w4.heap.size, 0, none⟩ (.int .i64 6)).symm)
 generalize w8.setCell ⟨w4.heap.size, 0, none⟩ (.int .i64 6) = w9 at HK HF hb q00 q01 q02 q03 ⊢
 obtain ⟨⟨x0, x1, x2, x3, x4⟩, xz⟩ := five_cells HK.out
 obtain ⟨⟨r0, r1, r2, r3, r4⟩, rz⟩ := five_cells HF.out.r
 obtain ⟨⟨z0, z1, z2, z3, z4⟩, zz⟩ := five_cells HF.out.z
 go_wp2_with fail
 exact bodyPost_ret (v := .tuple #[itV (6, ⟨#[]⟩, sx, 0, 0), .bool true]) (by simp [results, Try.results70, go_sem, r0, r1, r2, r3, r4]) rfl ⟨(6, ⟨#[]⟩, sx, 0, 0), true, rfl, below_set5 HF.out.b (by omega) _ _ _ _ _, rfl⟩
theorem vitem_attr2 (tx : ByteArray) (num : Int) (A : Option Addr) (n cap : Nat) (w : World) (kx : Int) (sx : ByteArray) (nx : Int) (ky : Int) (sy : ByteArray) (ny : Int) (rest : List Tk.Tok) (N : Nat) (hN : 2 <= N) (hNm : N <= 1000) (CA : Hid (∀ W, Below w.heap.size w W -> Calls Try.prog 89 #[prtV (3, tx, num) A n cap] W (ArgT N ((kx, sx, nx) :: (ky, sy, ny) :: rest) W))) (CN : Hid (∀ W A n c, Calls Try.prog 43 #[prtV (kx, sx, nx) A n c] W (Bo true W))) (ls : ByteArray) (CL : Hid (∀ W, Calls Try.prog 52 #[prtV (3, tx, num) A n cap] W (Sg ls W))) (eattr : (ls.toList == [97, 116, 116, 114]) = true) : Calls Try.prog 70 #[prtV (3, tx, num) A n cap] w (ItIs none w) := by
 obtain ⟨W2, hW, hF⟩ : ∃ W2, ((w.alloc (prtO (3, tx, num) A n cap)).alloc (itO 0 ⟨#[]⟩ ⟨#[]⟩ 0 0)).alloc (itO 0 ⟨#[]⟩ ⟨#[]⟩ 0 0) = W2 /\ ItF w W2 (3, tx, num) A n cap := ⟨_, rfl, ItF.start w _ A n cap⟩
 have HW := Lib.hid hW
 have HF := Lib.hid hF
 obtain ⟨p0, p1, p2, p3⟩ : W2.cell? ⟨w.heap.size, 0, none⟩ = some (.int .i64 3) /\ W2.cell? ⟨w.heap.size, 1, none⟩ = some (.string tx) /\ W2.cell? ⟨w.heap.size, 2, none⟩ = some (.int .i64 num) /\ W2.cell? ⟨w.heap.size, 3, none⟩ = some (.slice A n cap) := four_cells hF.p
 clear hF hW
 go_enter Try.func70, Try.ntmps70
 go_upto_region 2 with fail
 rw [HW.out]
 clear HW
 go_upto_region 8 with (first | (go_at_call 89; ((with_reducible refine (CA.out _ HF.out.b).mono ?_); rintro e w3 ⟨A1, c1, rfl, hc1, C1, b3⟩; have HF := Lib.hid (HF.out.next b3); obtain ⟨b, off, rfl, hb, hq⟩ := tkp_all C1 (by simp); obtain ⟨A0, n0, cp0, q00, q01, q02, q03⟩ : ∃ A0 n0 cp0, w3.cell? ⟨b, off, none⟩ = some (.int .i64 kx) /\ w3.cell? ⟨b, off + 1, none⟩ = some (.string sx) /\ w3.cell? ⟨b, off + 2, none⟩ = some (.int .i64 nx) /\ w3.cell? ⟨b, off + 3, none⟩ = some (.slice A0 n0 cp0) := hq 0 (by simp); obtain ⟨A1, n1, cp1, q10, q11, q12, q13⟩ : ∃ A1 n1 cp1, w3.cell? ⟨b, off + 4, none⟩ = some (.int .i64 ky) /\ w3.cell? ⟨b, off + 4 + 1, none⟩ = some (.string sy) /\ w3.cell? ⟨b, off + 4 + 2, none⟩ = some (.int .i64 ny) /\ w3.cell? ⟨b, off + 4 + 3, none⟩ = some (.slice A1 n1 cp1) := hq 1 (by simp); obtain ⟨p0, p1, p2, p3⟩ : w3.cell? ⟨w.heap.size, 0, none⟩ = some (.int .i64 3) /\ w3.cell? ⟨w.heap.size, 1, none⟩ = some (.string tx) /\ w3.cell? ⟨w.heap.size, 2, none⟩ = some (.int .i64 num) /\ w3.cell? ⟨w.heap.size, 3, none⟩ = some (.slice A n cap) := four_cells HF.out.p; clear b3 hq C1)) | (go_at_call 43; ((with_reducible refine (CN.out _ _ _ _).mono ?_); rintro e w4 ⟨rfl, b4⟩; have HF := Lib.hid (HF.out.next b4); have q00 := (b4.cell (p := ⟨b, off, none⟩) hb).trans q00; have q01 := (b4.cell (p := ⟨b, off + 1, none⟩) hb).trans q01; have q02 := (b4.cell (p := ⟨b, off + 2, none⟩) hb).trans q02; have q03 := (b4.cell (p := ⟨b, off + 3, none⟩) hb).trans q03; have q10 := (b4.cell (p := ⟨b, off + 4, none⟩) hb).trans q10; have q11 := (b4.cell (p := ⟨b, off + 4 + 1, none⟩) hb).trans q11; have q12 := (b4.cell (p := ⟨b, off + 4 + 2, none⟩) hb).trans q12; have q13 := (b4.cell (p := ⟨b, off + 4 + 3, none⟩) hb).trans q13; have hb := Nat.lt_of_lt_of_le hb b4.size; obtain ⟨p0, p1, p2, p3⟩ : w4.cell? ⟨w.heap.size, 0, none⟩ = some (.int .i64 3) /\ w4.cell? ⟨w.heap.size, 1, none⟩ = some (.string tx) /\ w4.cell? ⟨w.heap.size, 2, none⟩ = some (.int .i64 num) /\ w4.cell? ⟨w.heap.size, 3, none⟩ = some (.slice A n cap) := four_cells HF.out.p; clear b4)))
 have k7 := heap_alloc_new w4 (itO 0 ⟨#[]⟩ sx 0 0)
 have b7 := (Below.refl w4.heap.size w4).alloc (Nat.le_refl _) (itO 0 ⟨#[]⟩ sx 0 0)
 have hg7 := HF.out.lt
 have hbg := hb
 generalize w4.alloc (itO 0 ⟨#[]⟩ sx 0 0) = w7 at k7 b7 ⊢
 replace HF := Lib.hid (HF.out.next b7)
 replace q00 := (b7.cell (p := ⟨b, off, none⟩) hb).trans q00
 replace q01 := (b7.cell (p := ⟨b, off + 1, none⟩) hb).trans q01
 replace q02 := (b7.cell (p := ⟨b, off + 2, none⟩) hb).trans q02
 replace q03 := (b7.cell (p := ⟨b, off + 3, none⟩) hb).trans q03
 replace q10 := (b7.cell (p := ⟨b, off + 4, none⟩) hb).trans q10
 replace q11 := (b7.cell (p := ⟨b, off + 4 + 1, none⟩) hb).trans q11
 replace q12 := (b7.cell (p := ⟨b, off + 4 + 2, none⟩) hb).trans q12
 replace q13 := (b7.cell (p := ⟨b, off + 4 + 3, none⟩) hb).trans q13
 replace hb := Nat.lt_of_lt_of_le hb b7.size
 obtain ⟨p0, p1, p2, p3⟩ : w7.cell? ⟨w.heap.size, 0, none⟩ = some (.int .i64 3) /\ w7.cell? ⟨w.heap.size, 1, none⟩ = some (.string tx) /\ w7.cell? ⟨w.heap.size, 2, none⟩ = some (.int .i64 num) /\ w7.cell? ⟨w.heap.size, 3, none⟩ = some (.slice A n cap) := four_cells HF.out.p
 have HK := Lib.hid k7
 clear k7 b7
 go_upto_region 12 with (go_at_call 52; ((with_reducible refine (CL.out _).mono ?_); rintro e w8 ⟨rfl, b8⟩; have HF := Lib.hid (HF.out.next b8); have HK := Lib.hid (below_block b8 HK.out); have q00 := (b8.cell (p := ⟨b, off, none⟩) hb).trans q00; have q01 := (b8.cell (p := ⟨b, off + 1, none⟩) hb).trans q01; have q02 := (b8.cell (p := ⟨b, off + 2, none⟩) hb).trans q02; have q03 := (b8.cell (p := ⟨b, off + 3, none⟩) hb).trans q03; have q10 := (b8.cell (p := ⟨b, off + 4, none⟩) hb).trans q10; have q11 := (b8.cell (p := ⟨b, off + 4 + 1, none⟩) hb).trans q11; have q12 := (b8.cell (p := ⟨b, off + 4 + 2, none⟩) hb).trans q12; have q13 := (b8.cell (p := ⟨b, off + 4 + 3, none⟩) hb).trans q13; have hb := Nat.lt_of_lt_of_le hb b8.size; obtain ⟨⟨x0, x1, x2, x3, x4⟩, xz⟩ := five_cells HK.out; obtain ⟨⟨r0, r1, r2, r3, r4⟩, rz⟩ := five_cells HF.out.r; obtain ⟨⟨z0, z1, z2, z3, z4⟩, zz⟩ := five_cells HF.out.z; clear b8))
 have HK := Lib.hid (set5 HK.out (.int .i64 6)).1
 have HF := Lib.hid (HF.out.set hg7 0 (.int .i64 6))
 have q00 := (far_cell (i := 0) (v := .int .i64 6) (o := off) (W := w8) hbg).trans q00
 have q01 := (far_cell (i := 0) (v := .int .i64 6) (o := off + 1) (W := w8) hbg).trans q01
 have q02 := (far_cell (i := 0) (v := .int .i64 6) (o := off + 2) (W := w8) hbg).trans q02
 have q03 := (far_cell (i := 0) (v := .int .i64 6) (o := off + 3) (W := w8) hbg).trans q03
 have q10 := (far_cell (i := 0) (v := .int .i64 6) (o := off + 4) (W := w8) hbg).trans q10
 have q11 := (far_cell (i := 0) (v := .int .i64 6) (o := off + 4 + 1) (W := w8) hbg).trans q11
 have q12 := (far_cell (i := 0) (v := .int .i64 6) (o := off + 4 + 2) (W := w8) hbg).trans q12
 have q13 := (far_cell (i := 0) (v := .int .i64 6) (o := off + 4 + 3) (W := w8) hbg).trans q13
 have hb := Nat.lt_of_lt_of_le hb (Nat.le_of_eq (heap_setCell_size w8 ⟨w4.heap.size, 0, none⟩ (.int .i64 6)).symm)
 generalize w8.setCell ⟨w4.heap.size, 0, none⟩ (.int .i64 6) = w9 at HK HF hb q00 q01 q02 q03 q10 q11 q12 q13 ⊢
 obtain ⟨⟨x0, x1, x2, x3, x4⟩, xz⟩ := five_cells HK.out
 obtain ⟨⟨r0, r1, r2, r3, r4⟩, rz⟩ := five_cells HF.out.r
 obtain ⟨⟨z0, z1, z2, z3, z4⟩, zz⟩ := five_cells HF.out.z
 go_wp2_with fail
 exact bodyPost_ret (v := .tuple #[itV (0, ⟨#[]⟩, ⟨#[]⟩, 0, 0), .bool false]) (by simp [results, Try.results70, go_sem, r0, r1, r2, r3, r4]) rfl ⟨(0, ⟨#[]⟩, ⟨#[]⟩, 0, 0), false, rfl, below_set5 HF.out.b (by omega) _ _ _ _ _, rfl⟩
theorem vitem_other (tx : ByteArray) (num : Int) (A : Option Addr) (n cap : Nat) (w : World) (kx : Int) (sx : ByteArray) (nx : Int) (rest : List Tk.Tok) (N : Nat) (hN : 1 <= N) (hNm : N <= 1000) (CA : Hid (∀ W, Below w.heap.size w W -> Calls Try.prog 89 #[prtV (3, tx, num) A n cap] W (ArgT N ((kx, sx, nx) :: rest) W))) (CN : Hid (∀ W A n c, Calls Try.prog 43 #[prtV (kx, sx, nx) A n c] W (Bo true W))) (ls : ByteArray) (CL : Hid (∀ W, Calls Try.prog 52 #[prtV (3, tx, num) A n cap] W (Sg ls W))) (eattr : (ls.toList == [97, 116, 116, 114]) = false) (ecounters : (ls.toList == [99, 111, 117, 110, 116, 101, 114, 115]) = false) (ecounter : (ls.toList == [99, 111, 117, 110, 116, 101, 114]) = false) (estring : (ls.toList == [115, 116, 114, 105, 110, 103]) = false) (eelement : (ls.toList == [101, 108, 101, 109, 101, 110, 116]) = false) : Calls Try.prog 70 #[prtV (3, tx, num) A n cap] w (ItIs none w) := by
 obtain ⟨W2, hW, hF⟩ : ∃ W2, ((w.alloc (prtO (3, tx, num) A n cap)).alloc (itO 0 ⟨#[]⟩ ⟨#[]⟩ 0 0)).alloc (itO 0 ⟨#[]⟩ ⟨#[]⟩ 0 0) = W2 /\ ItF w W2 (3, tx, num) A n cap := ⟨_, rfl, ItF.start w _ A n cap⟩
 have HW := Lib.hid hW
 have HF := Lib.hid hF
 obtain ⟨p0, p1, p2, p3⟩ : W2.cell? ⟨w.heap.size, 0, none⟩ = some (.int .i64 3) /\ W2.cell? ⟨w.heap.size, 1, none⟩ = some (.string tx) /\ W2.cell? ⟨w.heap.size, 2, none⟩ = some (.int .i64 num) /\ W2.cell? ⟨w.heap.size, 3, none⟩ = some (.slice A n cap) := four_cells hF.p
 clear hF hW
 go_enter Try.func70, Try.ntmps70
 go_upto_region 2 with fail
 rw [HW.out]
 clear HW
 go_upto_region 8 with (first | (go_at_call 89; ((with_reducible refine (CA.out _ HF.out.b).mono ?_); rintro e w3 ⟨A1, c1, rfl, hc1, C1, b3⟩; have HF := Lib.hid (HF.out.next b3); obtain ⟨b, off, rfl, hb, hq⟩ := tkp_all C1 (by simp); obtain ⟨A0, n0, cp0, q00, q01, q02, q03⟩ : ∃ A0 n0 cp0, w3.cell? ⟨b, off, none⟩ = some (.int .i64 kx) /\ w3.cell? ⟨b, off + 1, none⟩ = some (.string sx) /\ w3.cell? ⟨b, off + 2, none⟩ = some (.int .i64 nx) /\ w3.cell? ⟨b, off + 3, none⟩ = some (.slice A0 n0 cp0) := hq 0 (by simp); obtain ⟨p0, p1, p2, p3⟩ : w3.cell? ⟨w.heap.size, 0, none⟩ = some (.int .i64 3) /\ w3.cell? ⟨w.heap.size, 1, none⟩ = some (.string tx) /\ w3.cell? ⟨w.heap.size, 2, none⟩ = some (.int .i64 num) /\ w3.cell? ⟨w.heap.size, 3, none⟩ = some (.slice A n cap) := four_cells HF.out.p; clear b3 hq C1)) | (go_at_call 43; ((with_reducible refine (CN.out _ _ _ _).mono ?_); rintro e w4 ⟨rfl, b4⟩; have HF := Lib.hid (HF.out.next b4); have q00 := (b4.cell (p := ⟨b, off, none⟩) hb).trans q00; have q01 := (b4.cell (p := ⟨b, off + 1, none⟩) hb).trans q01; have q02 := (b4.cell (p := ⟨b, off + 2, none⟩) hb).trans q02; have q03 := (b4.cell (p := ⟨b, off + 3, none⟩) hb).trans q03; have hb := Nat.lt_of_lt_of_le hb b4.size; obtain ⟨p0, p1, p2, p3⟩ : w4.cell? ⟨w.heap.size, 0, none⟩ = some (.int .i64 3) /\ w4.cell? ⟨w.heap.size, 1, none⟩ = some (.string tx) /\ w4.cell? ⟨w.heap.size, 2, none⟩ = some (.int .i64 num) /\ w4.cell? ⟨w.heap.size, 3, none⟩ = some (.slice A n cap) := four_cells HF.out.p; clear b4)))
 have k7 := heap_alloc_new w4 (itO 0 ⟨#[]⟩ sx 0 0)
 have b7 := (Below.refl w4.heap.size w4).alloc (Nat.le_refl _) (itO 0 ⟨#[]⟩ sx 0 0)
 have hg7 := HF.out.lt
 have hbg := hb
 generalize w4.alloc (itO 0 ⟨#[]⟩ sx 0 0) = w7 at k7 b7 ⊢
 replace HF := Lib.hid (HF.out.next b7)
 replace q00 := (b7.cell (p := ⟨b, off, none⟩) hb).trans q00
 replace q01 := (b7.cell (p := ⟨b, off + 1, none⟩) hb).trans q01
 replace q02 := (b7.cell (p := ⟨b, off + 2, none⟩) hb).trans q02
 replace q03 := (b7.cell (p := ⟨b, off + 3, none⟩) hb).trans q03
 replace hb := Nat.lt_of_lt_of_le hb b7.size
 obtain ⟨p0, p1, p2, p3⟩ : w7.cell? ⟨w.heap.size, 0, none⟩ = some (.int .i64 3) /\ w7.cell? ⟨w.heap.size, 1, none⟩ = some (.string tx) /\ w7.cell? ⟨w.heap.size, 2, none⟩ = some (.int .i64 num) /\ w7.cell? ⟨w.heap.size, 3, none⟩ = some (.slice A n cap) := four_cells HF.out.p
 have HK := Lib.hid k7
 clear k7 b7
 go_wp2_with (go_at_call 52; ((with_reducible refine (CL.out _).mono ?_); rintro e w8 ⟨rfl, b8⟩; have HF := Lib.hid (HF.out.next b8); have HK := Lib.hid (below_block b8 HK.out); have q00 := (b8.cell (p := ⟨b, off, none⟩) hb).trans q00; have q01 := (b8.cell (p := ⟨b, off + 1, none⟩) hb).trans q01; have q02 := (b8.cell (p := ⟨b, off + 2, none⟩) hb).trans q02; have q03 := (b8.cell (p := ⟨b, off + 3, none⟩) hb).trans q03; have hb := Nat.lt_of_lt_of_le hb b8.size; obtain ⟨⟨x0, x1, x2, x3, x4⟩, xz⟩ := five_cells HK.out; obtain ⟨⟨r0, r1, r2, r3, r4⟩, rz⟩ := five_cells HF.out.r; obtain ⟨⟨z0, z1, z2, z3, z4⟩, zz⟩ := five_cells HF.out.z; clear b8))
 exact bodyPost_ret (v := .tuple #[itV (0, ⟨#[]⟩, ⟨#[]⟩, 0, 0), .bool false]) (by simp [results, Try.results70, go_sem, r0, r1, r2, r3, r4]) rfl ⟨(0, ⟨#[]⟩, ⟨#[]⟩, 0, 0), false, rfl, below_set5 HF.out.b (by omega) _ _ _ _ _, rfl⟩
theorem vitem_not3 (kd : Int) (tx : ByteArray) (num : Int) (A : Option Addr) (n cap : Nat) (w : World) (h6 : (kd == 6) = false) (h3 : (kd != 3) = true) (CA : Hid (∀ W, Below w.heap.size w W -> Calls Try.prog 89 #[prtV (kd, tx, num) A n cap] W (fun e w' => (∃ v bb, e = .returned (.tuple #[v, .bool bb])) /\ Below W.heap.size W w'))) : Calls Try.prog 70 #[prtV (kd, tx, num) A n cap] w (ItIs none w) := by
 obtain ⟨W2, hW, hF⟩ : ∃ W2, ((w.alloc (prtO (kd, tx, num) A n cap)).alloc (itO 0 ⟨#[]⟩ ⟨#[]⟩ 0 0)).alloc (itO 0 ⟨#[]⟩ ⟨#[]⟩ 0 0) = W2 /\ ItF w W2 (kd, tx, num) A n cap := ⟨_, rfl, ItF.start w _ A n cap⟩
 have HW := Lib.hid hW
 have HF := Lib.hid hF
 obtain ⟨p0, p1, p2, p3⟩ : W2.cell? ⟨w.heap.size, 0, none⟩ = some (.int .i64 kd) /\ W2.cell? ⟨w.heap.size, 1, none⟩ = some (.string tx) /\ W2.cell? ⟨w.heap.size, 2, none⟩ = some (.int .i64 num) /\ W2.cell? ⟨w.heap.size, 3, none⟩ = some (.slice A n cap) := four_cells hF.p
 clear hF hW
 go_enter Try.func70, Try.ntmps70
 go_upto_region 2 with fail
 rw [HW.out]
 clear HW
 go_wp2_with (go_at_call 89; ((with_reducible refine (CA.out _ HF.out.b).mono ?_); rintro e w3 ⟨⟨v, bb, rfl⟩, b3⟩; have HF := Lib.hid (HF.out.next b3); obtain ⟨p0, p1, p2, p3⟩ : w3.cell? ⟨w.heap.size, 0, none⟩ = some (.int .i64 kd) /\ w3.cell? ⟨w.heap.size, 1, none⟩ = some (.string tx) /\ w3.cell? ⟨w.heap.size, 2, none⟩ = some (.int .i64 num) /\ w3.cell? ⟨w.heap.size, 3, none⟩ = some (.slice A n cap) := four_cells HF.out.p; obtain ⟨⟨r0, r1, r2, r3, r4⟩, rz⟩ := five_cells HF.out.r; obtain ⟨⟨z0, z1, z2, z3, z4⟩, zz⟩ := five_cells HF.out.z; clear b3))
 exact bodyPost_ret (v := .tuple #[itV (0, ⟨#[]⟩, ⟨#[]⟩, 0, 0), .bool false]) (by simp [results, Try.results70, go_sem, r0, r1, r2, r3, r4]) rfl ⟨(0, ⟨#[]⟩, ⟨#[]⟩, 0, 0), false, rfl, below_set5 HF.out.b (by omega) _ _ _ _ _, rfl⟩
theorem vitem_noargs (tx : ByteArray) (num : Int) (A : Option Addr) (n cap : Nat) (w : World) (CA : Hid (∀ W, Below w.heap.size w W -> Calls Try.prog 89 #[prtV (3, tx, num) A n cap] W (fun e w' => e = .returned (.tuple #[.slice none 0 0, .bool false]) /\ Below W.heap.size W w'))) : Calls Try.prog 70 #[prtV (3, tx, num) A n cap] w (ItIs none w) := by
 obtain ⟨W2, hW, hF⟩ : ∃ W2, ((w.alloc (prtO (3, tx, num) A n cap)).alloc (itO 0 ⟨#[]⟩ ⟨#[]⟩ 0 0)).alloc (itO 0 ⟨#[]⟩ ⟨#[]⟩ 0 0) = W2 /\ ItF w W2 (3, tx, num) A n cap := ⟨_, rfl, ItF.start w _ A n cap⟩
 have HW := Lib.hid hW
 have HF := Lib.hid hF
 obtain ⟨p0, p1, p2, p3⟩ : W2.cell? ⟨w.heap.size, 0, none⟩ = some (.int .i64 3) /\ W2.cell? ⟨w.heap.size, 1, none⟩ = some (.string tx) /\ W2.cell? ⟨w.heap.size, 2, none⟩ = some (.int .i64 num) /\ W2.cell? ⟨w.heap.size, 3, none⟩ = some (.slice A n cap) := four_cells hF.p
 clear hF hW
 go_enter Try.func70, Try.ntmps70
 go_upto_region 2 with fail
 rw [HW.out]
 clear HW
 go_wp2_with (go_at_call 89; ((with_reducible refine (CA.out _ HF.out.b).mono ?_); rintro e w3 ⟨rfl, b3⟩; have HF := Lib.hid (HF.out.next b3); obtain ⟨p0, p1, p2, p3⟩ : w3.cell? ⟨w.heap.size, 0, none⟩ = some (.int .i64 3) /\ w3.cell? ⟨w.heap.size, 1, none⟩ = some (.string tx) /\ w3.cell? ⟨w.heap.size, 2, none⟩ = some (.int .i64 num) /\ w3.cell? ⟨w.heap.size, 3, none⟩ = some (.slice A n cap) := four_cells HF.out.p; obtain ⟨⟨r0, r1, r2, r3, r4⟩, rz⟩ := five_cells HF.out.r; obtain ⟨⟨z0, z1, z2, z3, z4⟩, zz⟩ := five_cells HF.out.z; clear b3))
 exact bodyPost_ret (v := .tuple #[itV (0, ⟨#[]⟩, ⟨#[]⟩, 0, 0), .bool false]) (by simp [results, Try.results70, go_sem, r0, r1, r2, r3, r4]) rfl ⟨(0, ⟨#[]⟩, ⟨#[]⟩, 0, 0), false, rfl, below_set5 HF.out.b (by omega) _ _ _ _ _, rfl⟩
end Go.Proofs.Ytaofkaehhikfaaa
