/-
  The walk of the reference's Content.
-/
import Derived.Test.YtaofkaehhikfaaaGak
import Derived.Test.YtaofkaehhikfaaaGad
import Derived.Deep.RegionWith
import Derived.Test.YtaofkaehhikfaaaGac
import Derived.Test.YtaofkaehhikfaaaGaa
import Derived.Laws.BytesArg
import Derived.WalkSpells
import Derived.WalkLawsBesides
import Derived.Lib.Hide
import Derived.LoopTactic
import Derived.Lib.Atoi
import Derived.Lib.Strings
set_option maxHeartbeats 16000000
set_option maxRecDepth 100000
namespace Go.Proofs.Ytaofkaehhikfaaa
open Go.RowKit Vl
namespace Vl
def ContIs (r : List Itm × Bool × Bool) (w : World) (e : Ending) (w' : World) : Prop :=
 ∃ (A : Option Addr) (cap : Nat), e = .returned (.tuple #[.slice A r.1.length cap, .bool r.2.1, .bool r.2.2]) /\ r.1.length <= cap /\ Rl.Cells 5 ItQ w' A r.1 /\ Below w.heap.size w w'
theorem ContIs.nil {x y : Bool} {w w' : World} (h : Below w.heap.size w w') : ContIs ([], x, y) w (.returned (.tuple #[.slice none 0 0, .bool x, .bool y])) w' := ⟨none, 0, rfl, Nat.le_refl _, Rl.cells_nil, h⟩
def PrOk (P : List Prt) : Prop := ∀ p ∈ P, (∃ Q, rpt p.2 = some Q) /\ p.2.length <= 1000 /\ p.1.2.1.size <= 90000 /\ ∀ x ∈ p.2, x.2.1.size <= 90000
theorem rpt_ok {v : List Tk.Tok} {P : List Prt} (hm : v.length <= 1000) (hs : ∀ x ∈ v, x.2.1.size <= 90000) (h : rpt v = some P) : PrOk P /\ P.length <= 1000 := by
 have h2 := rpt_mem h
 refine ⟨fun p hp => ?_, by omega⟩
 have h3 := h2.2 p hp
 have hq : (∃ Q, rpt p.2 = some Q) /\ p.2.length <= 1000 := by
  unfold rpt at h
  split at h
  ·cases h
  ·rename_i hd
   cases hps : parts v with
   | none => rw [hps] at h; cases h
   | some ps =>
     rw [hps] at h
     simp only [Option.map_some, Option.some.injEq] at h
     subst h
     have hm2 := (G_mem hp).1
     obtain ⟨qs, hqs⟩ := parts_closed hps p hm2
     have hnd : ¬ Ns.deep p.2 := fun hc => parts_dp v.length v (Nat.le_refl _) ps hps (fun hx => hd ((deep_iff v).2 hx)) p hm2 ((deep_iff p.2).1 hc)
     refine ⟨⟨G qs, by unfold rpt; rw [if_neg hnd, hqs]; rfl⟩, ?_⟩
     rw [parts_all] at hps
     split at hps
     ·cases hps
      obtain ⟨x, hx, rfl⟩ := List.mem_map.1 hm2
      show (arg v x).length <= 1000
      unfold arg
      split
      ·simp
      ·unfold seg
       simp only [List.length_take, List.length_drop]
       omega
     ·cases hps
 exact ⟨hq.1, hq.2, hs _ h3.1, fun x hx => hs _ (h3.2 x hx)⟩
end Vl
theorem vcontent_any (v : List Tk.Tok) (hm : v.length <= 1000) (hs : ∀ x ∈ v, x.2.1.size <= 90000) (A : Option Addr) (cap : Nat) (hcap : v.length <= cap) (w : World) (h : Ts w w.heap.size A v) :
 Calls Try.prog 14 #[.slice A v.length cap] w (ContIs (rcontent v) w) := by
 have CP : Hid (∀ W, Below w.heap.size w W -> Calls Try.prog 38 #[.slice A v.length cap] W (PrIs (rpt v) W)) := Lib.hid fun W hb => vparts_any v hm A cap hcap W (h.next hb)
 have HB := Lib.hid (Below.refl w.heap.size w)
 clear h
 cases hr : rpt v with
 | none =>
   have hv : rcontent v = ([], false, false) := by unfold rcontent; rw [hr]
   rw [hv]
   have CP2 : Hid (∀ W, Below w.heap.size w W -> Calls Try.prog 38 #[.slice A v.length cap] W (NoPr W)) := Lib.hid fun W hb => (CP.out W hb).mono fun e w' h => h.2 hr
   clear CP hr hv
   go_enter Try.func14, Try.ntmps14
   go_wp2_with (go_at_call 38; ((with_reducible refine (CP2.out _ HB.out).mono ?_); rintro e w1 ⟨rfl, b1⟩; have HB1 := Lib.hid b1; clear b1))
   go_ret3
   exact ContIs.nil HB1.out
 | some P =>
   obtain ⟨hok, hPl⟩ := rpt_ok hm hs hr
   have CP2 : Hid (∀ W, Below w.heap.size w W -> Calls Try.prog 38 #[.slice A v.length cap] W (ToldPr P W)) := Lib.hid fun W hb => (CP.out W hb).mono fun e w' h => h.1 P hr
   have CI : Hid (∀ (W0 W : World) (A : Option Addr) (c : Nat), Below W0.heap.size W0 W -> Rl.Cells 4 (PrtQ W0) W A P -> Calls Try.prog 40 #[.slice A P.length c, .bool false] W (ItsIs (some_ (seqO (ritF false) P)) W)) := Lib.hid fun W0 W A c hb hC => vitems_any P hPl hok false A c W0 W hb hC
   have HV : Hid (rcontent v = if wrd (fs P) = wNone ∨ wrd (fs P) = wNormal then ([], true, true) else match some_ (seqO (ritF false) P) with
    | some l => (l, false, true)
    | none => ([], false, false)) := Lib.hid (by unfold rcontent; rw [hr]; rfl)
   have HOK := Lib.hid hok
   clear CP hr hok
   generalize rcontent v = res at *
   by_cases h1 : P.length = 1
   ·obtain ⟨p, rfl⟩ : ∃ p, P = [p] := by
     match P, h1 with
     | [p], _ => exact ⟨p, rfl⟩
    obtain ⟨⟨kd, tx, num⟩, m⟩ := p
    have hsz := (HOK.out ((kd, tx, num), m) (by simp)).2.2.1
    have CD : Hid (∀ W A n c s, Calls Try.prog 39 #[prtV (kd, tx, num) A n c, .string s] W (Bo (decide (kd = 2 /\ Ru.lowS tx = s)) W)) := Lib.hid fun W A n c s => vident_any (kd, tx, num) hsz A n c s W
    have HW : Hid (wrd (fs [((kd, tx, num), m)]) = if kd = 2 then Ru.lowS tx else ⟨#[]⟩) := Lib.hid rfl
    rw [HW.out] at HV
    clear HW hsz
    by_cases c1 : kd = 2 /\ Ru.lowS tx = wNone
    ·have HV2 : Hid (res = ([], true, true)) := Lib.hid (by rw [HV.out, if_pos c1.1, if_pos (.inl c1.2)])
     have CD1 : Hid (∀ W A n c, Calls Try.prog 39 #[prtV (kd, tx, num) A n c, .string wNone] W (Bo true W)) := Lib.hid fun W A n c => by
      have := CD.out W A n c wNone
      rwa [decide_eq_true c1] at this
     clear HV CD CI c1
     go_enter Try.func14, Try.ntmps14
     go_wp2_with (first | (go_at_call 38; ((with_reducible refine (CP2.out _ HB.out).mono ?_); rintro e w1 ⟨A1, c1, rfl, hc1, C1, b1⟩; have HB1 := Lib.hid b1; obtain ⟨b, off, A', cp, rfl, hb, hcp, hTs, y0, y1, y2, y3⟩ := prt_at C1 (i := 0) (by simp); obtain ⟨q0, q1, q2, q3⟩ : w1.cell? ⟨b, off, none⟩ = some (.int .i64 kd) /\ w1.cell? ⟨b, off + 1, none⟩ = some (.string tx) /\ w1.cell? ⟨b, off + 2, none⟩ = some (.int .i64 num) /\ w1.cell? ⟨b, off + 3, none⟩ = some (.slice A' m.length cp) := ⟨y0, y1, y2, y3⟩; clear b1 C1 hTs y0 y1 y2 y3)) | (go_at_call 39; ((with_reducible refine (CD1.out _ _ _ _).mono ?_); rintro e w2 ⟨rfl, b2⟩; have HB2 := Lib.hid (below_next HB1.out b2); clear b2)))
     go_ret3
     rw [HV2.out]
     exact ContIs.nil HB2.out
    ·have CD1 : Hid (∀ W A n c, Calls Try.prog 39 #[prtV (kd, tx, num) A n c, .string wNone] W (Bo false W)) := Lib.hid fun W A n c => by
      have := CD.out W A n c wNone
      rwa [decide_eq_false c1] at this
     by_cases c2 : kd = 2 /\ Ru.lowS tx = wNormal
     ·have HV2 : Hid (res = ([], true, true)) := Lib.hid (by rw [HV.out, if_pos c2.1, if_pos (.inr c2.2)])
      have CD2 : Hid (∀ W A n c, Calls Try.prog 39 #[prtV (kd, tx, num) A n c, .string wNormal] W (Bo true W)) := Lib.hid fun W A n c => by
       have := CD.out W A n c wNormal
       rwa [decide_eq_true c2] at this
      clear HV CD CI c1 c2
      go_enter Try.func14, Try.ntmps14
      go_wp2_with (first | (go_at_call 38; ((with_reducible refine (CP2.out _ HB.out).mono ?_); rintro e w1 ⟨A1, c1, rfl, hc1, C1, b1⟩; have HB1 := Lib.hid b1; obtain ⟨b, off, A', cp, rfl, hb, hcp, hTs, y0, y1, y2, y3⟩ := prt_at C1 (i := 0) (by simp); obtain ⟨q0, q1, q2, q3⟩ : w1.cell? ⟨b, off, none⟩ = some (.int .i64 kd) /\ w1.cell? ⟨b, off + 1, none⟩ = some (.string tx) /\ w1.cell? ⟨b, off + 2, none⟩ = some (.int .i64 num) /\ w1.cell? ⟨b, off + 3, none⟩ = some (.slice A' m.length cp) := ⟨y0, y1, y2, y3⟩; clear b1 C1 hTs y0 y1 y2 y3)) | (go_at_call 39; (first | ((with_reducible refine (CD1.out _ _ _ _).mono ?_); rintro e w2 ⟨rfl, b2⟩; have HB2 := Lib.hid (below_next HB1.out b2); have q0 := (b2.cell (p := ⟨b, off, none⟩) hb).trans q0; have q1 := (b2.cell (p := ⟨b, off + 1, none⟩) hb).trans q1; have q2 := (b2.cell (p := ⟨b, off + 2, none⟩) hb).trans q2; have q3 := (b2.cell (p := ⟨b, off + 3, none⟩) hb).trans q3; clear b2) | ((with_reducible refine (CD2.out _ _ _ _).mono ?_); rintro e w3 ⟨rfl, b3⟩; have HB3 := Lib.hid (below_next HB2.out b3); clear b3))))
      go_ret3
      rw [HV2.out]
      exact ContIs.nil HB3.out
     ·have CD2 : Hid (∀ W A n c, Calls Try.prog 39 #[prtV (kd, tx, num) A n c, .string wNormal] W (Bo false W)) := Lib.hid fun W A n c => by
       have := CD.out W A n c wNormal
       rwa [decide_eq_false c2] at this
      have HV2 : Hid (res = match some_ (seqO (ritF false) [((kd, tx, num), m)]) with
       | some l => (l, false, true)
       | none => ([], false, false)) := Lib.hid (by
       rw [HV.out]
       refine if_neg fun hh => ?_
       by_cases hk : kd = 2
       ·rw [if_pos hk] at hh
        exact hh.elim (fun h => c1 ⟨hk, h⟩) (fun h => c2 ⟨hk, h⟩)
       ·rw [if_neg hk] at hh
        revert hh; decide)
      clear HV CD c1 c2
      have CI1 : Hid (∀ (W0 W : World) (A : Option Addr) (c : Nat), Below W0.heap.size W0 W -> Rl.Cells 4 (PrtQ W0) W A [((kd, tx, num), m)] -> Calls Try.prog 40 #[.slice A 1 c, .bool false] W (ItsIs (some_ (seqO (ritF false) [((kd, tx, num), m)])) W)) := Lib.hid fun W0 W A c hb hC => CI.out W0 W A c hb hC
      clear CI
      generalize some_ (seqO (ritF false) [((kd, tx, num), m)]) = os at *
      cases os with
      | none =>
        go_enter Try.func14, Try.ntmps14
        go_wp2_with (first | (go_at_call 38; ((with_reducible refine (CP2.out _ HB.out).mono ?_); rintro e w1 ⟨A1, c1, rfl, hc1, C1, b1⟩; have HB1 := Lib.hid b1; have HC := Lib.hid C1; have HC1 := Lib.hid C1; obtain ⟨b, off, A', cp, rfl, hb, hcp, hTs, y0, y1, y2, y3⟩ := prt_at C1 (i := 0) (by simp); obtain ⟨q0, q1, q2, q3⟩ : w1.cell? ⟨b, off, none⟩ = some (.int .i64 kd) /\ w1.cell? ⟨b, off + 1, none⟩ = some (.string tx) /\ w1.cell? ⟨b, off + 2, none⟩ = some (.int .i64 num) /\ w1.cell? ⟨b, off + 3, none⟩ = some (.slice A' m.length cp) := ⟨y0, y1, y2, y3⟩; clear b1 C1 hTs y0 y1 y2 y3)) | (go_at_call 39; (first | ((with_reducible refine (CD1.out _ _ _ _).mono ?_); rintro e w2 ⟨rfl, b2⟩; have HB2 := Lib.hid (below_next HB1.out b2); have HC2 := Lib.hid (Rl.cells_next keeps_prt HC1.out b2); have q0 := (b2.cell (p := ⟨b, off, none⟩) hb).trans q0; have q1 := (b2.cell (p := ⟨b, off + 1, none⟩) hb).trans q1; have q2 := (b2.cell (p := ⟨b, off + 2, none⟩) hb).trans q2; have q3 := (b2.cell (p := ⟨b, off + 3, none⟩) hb).trans q3; clear b2) | ((with_reducible refine (CD2.out _ _ _ _).mono ?_); rintro e w3 ⟨rfl, b3⟩; have HB3 := Lib.hid (below_next HB2.out b3); have HC3 := Lib.hid (Rl.cells_next keeps_prt HC2.out b3); clear b3))) | (go_at_call 40; ((with_reducible refine (CI1.out _ _ _ _ HB3.out HC3.out).mono ?_); rintro e w4 ⟨_, hno⟩; obtain ⟨A4, n4, c4, rfl, b4⟩ := hno rfl; have HB4 := Lib.hid (below_next HB3.out b4); clear b4)))
        go_ret3
        rw [HV2.out]
        exact ContIs.nil HB4.out
      | some l =>
        go_enter Try.func14, Try.ntmps14
        go_wp2_with (first | (go_at_call 38; ((with_reducible refine (CP2.out _ HB.out).mono ?_); rintro e w1 ⟨A1, c1, rfl, hc1, C1, b1⟩; have HB1 := Lib.hid b1; have HC1 := Lib.hid C1; obtain ⟨b, off, A', cp, rfl, hb, hcp, hTs, y0, y1, y2, y3⟩ := prt_at C1 (i := 0) (by simp); obtain ⟨q0, q1, q2, q3⟩ : w1.cell? ⟨b, off, none⟩ = some (.int .i64 kd) /\ w1.cell? ⟨b, off + 1, none⟩ = some (.string tx) /\ w1.cell? ⟨b, off + 2, none⟩ = some (.int .i64 num) /\ w1.cell? ⟨b, off + 3, none⟩ = some (.slice A' m.length cp) := ⟨y0, y1, y2, y3⟩; clear b1 C1 hTs y0 y1 y2 y3)) | (go_at_call 39; (first | ((with_reducible refine (CD1.out _ _ _ _).mono ?_); rintro e w2 ⟨rfl, b2⟩; have HB2 := Lib.hid (below_next HB1.out b2); have HC2 := Lib.hid (Rl.cells_next keeps_prt HC1.out b2); have q0 := (b2.cell (p := ⟨b, off, none⟩) hb).trans q0; have q1 := (b2.cell (p := ⟨b, off + 1, none⟩) hb).trans q1; have q2 := (b2.cell (p := ⟨b, off + 2, none⟩) hb).trans q2; have q3 := (b2.cell (p := ⟨b, off + 3, none⟩) hb).trans q3; clear b2) | ((with_reducible refine (CD2.out _ _ _ _).mono ?_); rintro e w3 ⟨rfl, b3⟩; have HB3 := Lib.hid (below_next HB2.out b3); have HC3 := Lib.hid (Rl.cells_next keeps_prt HC2.out b3); clear b3))) | (go_at_call 40; ((with_reducible refine (CI1.out _ _ _ _ HB3.out HC3.out).mono ?_); rintro e w4 ⟨hyes, _⟩; obtain ⟨A4, c4, rfl, hc4, C4, T4, b4⟩ := hyes l rfl; have HB4 := Lib.hid (below_next HB3.out b4); have HC4 := Lib.hid C4; clear b4 C4 T4)))
        go_ret3
        rw [HV2.out]
        exact ⟨A4, c4, rfl, hc4, HC4.out, HB4.out⟩
   ·have e1 : ((P.length : Int) == 1) = false := beq_false_of_ne (by omega)
    have HV2 : Hid (res = match some_ (seqO (ritF false) P) with
     | some l => (l, false, true)
     | none => ([], false, false)) := Lib.hid (by
     rw [HV.out]
     have hw : wrd (fs P) = ⟨#[]⟩ := wrd_no fun t ht => absurd (by rw [<- fs_len, ht]; rfl) h1
     rw [hw]
     exact if_neg (by decide))
    clear HV
    generalize some_ (seqO (ritF false) P) = os at *
    cases os with
    | none =>
      go_enter Try.func14, Try.ntmps14
      go_wp2_with (first | (go_at_call 38; ((with_reducible refine (CP2.out _ HB.out).mono ?_); rintro e w1 ⟨A1, c1, rfl, hc1, C1, b1⟩; have HB1 := Lib.hid b1; have HC1 := Lib.hid C1; clear b1 C1)) | (go_at_call 40; ((with_reducible refine (CI.out _ _ _ _ HB1.out HC1.out).mono ?_); rintro e w4 ⟨_, hno⟩; obtain ⟨A4, n4, c4, rfl, b4⟩ := hno rfl; have HB4 := Lib.hid (below_next HB1.out b4); clear b4)))
      go_ret3
      rw [HV2.out]
      exact ContIs.nil HB4.out
    | some l =>
      go_enter Try.func14, Try.ntmps14
      go_wp2_with (first | (go_at_call 38; ((with_reducible refine (CP2.out _ HB.out).mono ?_); rintro e w1 ⟨A1, c1, rfl, hc1, C1, b1⟩; have HB1 := Lib.hid b1; have HC1 := Lib.hid C1; clear b1 C1)) | (go_at_call 40; ((with_reducible refine (CI.out _ _ _ _ HB1.out HC1.out).mono ?_); rintro e w4 ⟨hyes, _⟩; obtain ⟨A4, c4, rfl, hc4, C4, T4, b4⟩ := hyes l rfl; have HB4 := Lib.hid (below_next HB1.out b4); have HC4 := Lib.hid C4; clear b4 C4 T4)))
      go_ret3
      rw [HV2.out]
      exact ⟨A4, c4, rfl, hc4, HC4.out, HB4.out⟩
end Go.Proofs.Ytaofkaehhikfaaa
namespace Go.Proofs.Ytaofkaehhikfaaa
open Go.RowKit Vl
namespace Vl
theorem rd_in {v : List Tk.Tok} : (rd v).length <= v.length /\ ∀ x ∈ rd v, x ∈ v := by
 unfold rd
 split
 ·exact ⟨by simp, fun x hx => by cases hx⟩
 ·exact ⟨F_len v, fun x hx => (F_mem hx).1⟩
def onC : Option (List Itm) -> List Itm × Bool × Bool
 | some l => (l, false, true)
 | none => ([], false, false)
theorem its_at (own : Bool) (L : List Tk.Tok) : (parts L).bind (its own) = some_ (seqO (itmAt own L) (Ns.plc (Ns.ends L) L.length 0)) := by
 rw [<- parts_seqO]
 cases parts L <;> rfl
end Vl
theorem ccontent_any (v : List Tk.Tok) (hm : v.length <= 1000) (hs : ∀ x ∈ v, x.2.1.size <= 90000) (A : Option Addr) (cap : Nat) (w : World) (h : Ts w w.heap.size A v) :
 Calls Try.prog 13 #[.slice A v.length cap] w (ContIs (rcontent v) w) := by
 rw [<- content_same]
 have CR : Hid (Calls Try.prog 34 #[.slice A v.length cap] w (RdIs (rd v) w)) := Lib.hid (cread_any v hm A cap w h)
 have hL := rd_in (v := v)
 have hlm : (rd v).length <= 1000 := by omega
 have hls : ∀ x ∈ rd v, x.2.1.size <= 90000 := fun x hx => hs x (hL.2 x hx)
 clear h hL hs hm
 have HE : Hid (contentS (rd v) = if wrd (rd v) = wNone ∨ wrd (rd v) = wNormal then ([], true, true) else onC (some_ (seqO (itmAt false (rd v)) (Ns.plc (Ns.ends (rd v)) (rd v).length 0)))) := Lib.hid (by
  unfold contentS; rw [its_at]
  cases some_ (seqO (itmAt false (rd v)) (Ns.plc (Ns.ends (rd v)) (rd v).length 0)) <;> rfl)
 have CI : Hid (∀ A C c d M b1 b2 W, Vt W (rd v) A C c d -> Kn false M b1 b2 W -> Calls Try.prog 36 #[vtV A C (rd v).length c d, .int .i64 0, .int .i64 (rd v).length, .map (some M)] W (ItsC (some_ (seqO (itmAt false (rd v)) (Ns.plc (Ns.ends (rd v)) (rd v).length 0))) W)) := Lib.hid fun A C c d M b1 b2 W hV hK =>
  citems_any false (rd v) hlm hls A C c d 0 (rd v).length (Nat.zero_le _) (Nat.le_refl _) M b1 b2 W hV hK
 have CW : Hid (∀ A c W, Ts W W.heap.size A (rd v) -> Calls Try.prog 35 #[.slice A (rd v).length c] W (Sg (wrd (rd v)) W)) := Lib.hid fun A c W hT => cword_any (rd v) hlm hls A c W hT
 clear hls
 generalize contentS (rd v) = res at *
 generalize some_ (seqO (itmAt false (rd v)) (Ns.plc (Ns.ends (rd v)) (rd v).length 0)) = o at *
 generalize wrd (rd v) = wd at *
 generalize rd v = L at *
 go_enter Try.func13, Try.ntmps13
 go_upto_region 2 with (go_at_call 34; ((with_reducible refine (CR.out).mono ?_); rintro e w1 ⟨A1, C1, c1, d1, rfl, hc1, hd1, T1, B1, b1⟩; have HB1 := Lib.hid b1; have HV1 : Hid (Vt w1 L A1 C1 c1 d1) := Lib.hid ⟨hc1, hd1, T1, B1⟩; clear b1 T1 B1))
 have k2 := heap_alloc_new w1 (vtO A1 C1 L.length c1 d1)
 have b2 := (Below.refl w1.heap.size w1).alloc (Nat.le_refl _) (vtO A1 C1 L.length c1 d1)
 have hlt2 : w1.heap.size < (w1.alloc (vtO A1 C1 L.length c1 d1)).heap.size := by simp
 generalize w1.alloc (vtO A1 C1 L.length c1 d1) = w2 at k2 b2 hlt2 ⊢
 have HV2 := Lib.hid (HV1.out.next b2)
 have HB2 := Lib.hid (below_next HB1.out b2)
 have HK2 := Lib.hid k2
 obtain ⟨x0, x1⟩ := two_cells k2
 clear k2 b2 HV1 CR
 have AW := Lib.hid (CW.out A1 c1 w2 HV2.out.ts)
 clear CW
 by_cases h1 : wd = wNone
 ·have e1 := str_yesL [110, 111, 110, 101] h1
  have HX : Hid (res = ([], true, true)) := Lib.hid (by rw [HE.out, if_pos (.inl h1)])
  clear HE h1 CI
  go_wp2_with (go_at_call 35; ((with_reducible refine (AW.out).mono ?_); rintro e w3 ⟨rfl, b3⟩; have HB3 := Lib.hid (below_next HB2.out b3); clear b3))
  go_ret3
  rw [HX.out]
  exact ContIs.nil HB3.out
 ·have e1 := str_noL [110, 111, 110, 101] h1
  by_cases h2 : wd = wNormal
  ·have e2 := str_yesL [110, 111, 114, 109, 97, 108] h2
   have HX : Hid (res = ([], true, true)) := Lib.hid (by rw [HE.out, if_pos (.inr h2)])
   clear HE h1 h2 CI
   go_wp2_with (go_at_call 35; ((with_reducible refine (AW.out).mono ?_); rintro e w3 ⟨rfl, b3⟩; have HB3 := Lib.hid (below_next HB2.out b3); clear b3))
   go_ret3
   rw [HX.out]
   exact ContIs.nil HB3.out
  ·have e2 := str_noL [110, 111, 114, 109, 97, 108] h2
   have HX : Hid (res = onC o) := Lib.hid (by rw [HE.out, if_neg (by rintro (h | h); exact h1 h; exact h2 h)])
   clear HE h1 h2
   go_upto_region 6 with (go_at_call 35; ((with_reducible refine (AW.out).mono ?_); rintro e w3 ⟨rfl, b3⟩; have HV3 := Lib.hid (HV2.out.next b3); have HK3 := Lib.hid (below_block b3 HK2.out); have HB3 := Lib.hid (below_next HB2.out b3); have hlt3 := Nat.lt_of_lt_of_le hlt2 b3.size; clear b3))
   obtain ⟨y0, y1⟩ := two_cells HK3.out
   cases o with
   | none =>
     have CI2 : Hid (∀ A C c d M b1 b2 W, Vt W L A C c d -> Kn false M b1 b2 W -> Calls Try.prog 36 #[vtV A C L.length c d, .int .i64 0, .int .i64 L.length, .map (some M)] W (NoC W)) := Lib.hid fun A C c d M b1 b2 W hV hK => (CI.out A C c d M b1 b2 W hV hK).mono fun e w' h => h.2 rfl
     clear CI
     go_region_with (first | (go_at_call 37; ((with_reducible refine (cfunctions_any _).mono ?_); rintro e w4 ⟨M, k1, k2, rfl, hK, b4, _⟩; have bb : Below w3.heap.size w3 w4 := (by first | exact b4 | exact below_next (Below.refl _ _).drew b4); have HB4 := Lib.hid (below_next HB3.out bb); have HV4 := Lib.hid (HV3.out.next bb); have HK4 := Lib.hid hK; obtain ⟨z0, z1⟩ := two_cells (below_block bb HK3.out); have hlt4 := Nat.lt_of_lt_of_le hlt3 bb.size; clear b4 bb hK)) | (go_at_call 36; ((first | (with_reducible refine (CI2.out _ _ _ _ _ _ _ _ HV4.out HK4.out).mono ?_) | (with_reducible refine (CI2.out _ _ _ _ _ _ _ _ (HV4.out.next (Below.refl _ _).drew) (HK4.out.next (Below.refl _ _).drew)).mono ?_)); rintro e w5 ⟨A5, c5, rfl, b5⟩; have bb : Below w4.heap.size w4 w5 := (by first | exact b5 | exact below_next (Below.refl _ _).drew b5); have HB5 := Lib.hid (below_next HB4.out bb); clear b5 bb)))
     all_goals
      go_wp2_with fail
      go_ret3
      rw [HX.out]
      exact ⟨A5, c5, rfl, Nat.zero_le _, fun h => (by cases h), HB5.out⟩
   | some l =>
     have CI2 : Hid (∀ A C c d M b1 b2 W, Vt W L A C c d -> Kn false M b1 b2 W -> Calls Try.prog 36 #[vtV A C L.length c d, .int .i64 0, .int .i64 L.length, .map (some M)] W (ToldI l W)) := Lib.hid fun A C c d M b1 b2 W hV hK => (CI.out A C c d M b1 b2 W hV hK).mono fun e w' h => h.1 l rfl
     clear CI
     go_region_with (first | (go_at_call 37; ((with_reducible refine (cfunctions_any _).mono ?_); rintro e w4 ⟨M, k1, k2, rfl, hK, b4, _⟩; have bb : Below w3.heap.size w3 w4 := (by first | exact b4 | exact below_next (Below.refl _ _).drew b4); have HB4 := Lib.hid (below_next HB3.out bb); have HV4 := Lib.hid (HV3.out.next bb); have HK4 := Lib.hid hK; obtain ⟨z0, z1⟩ := two_cells (below_block bb HK3.out); have hlt4 := Nat.lt_of_lt_of_le hlt3 bb.size; clear b4 bb hK)) | (go_at_call 36; ((first | (with_reducible refine (CI2.out _ _ _ _ _ _ _ _ HV4.out HK4.out).mono ?_) | (with_reducible refine (CI2.out _ _ _ _ _ _ _ _ (HV4.out.next (Below.refl _ _).drew) (HK4.out.next (Below.refl _ _).drew)).mono ?_)); rintro e w5 ⟨A5, c5, rfl, hc5, C5, _, b5⟩; have HC5 := Lib.hid C5; clear C5; have bb : Below w4.heap.size w4 w5 := (by first | exact b5 | exact below_next (Below.refl _ _).drew b5); have HB5 := Lib.hid (below_next HB4.out bb); clear b5 bb)))
     all_goals
      go_wp2_with fail
      go_ret3
      rw [HX.out]
      exact ⟨A5, c5, rfl, hc5, HC5.out, HB5.out⟩
end Go.Proofs.Ytaofkaehhikfaaa
namespace Go.Proofs.Ytaofkaehhikfaaa
open Go.RowKit Vl
theorem field_vt (A C : Option Addr) (n m c d : Nat) (w : World) : (Instr.field 59 (.agg #[.slice A n c, .slice C m d]) 0).run Try.prog w = .ok (.slice A n c) w := by kernel_rfl
theorem cbreaks_any (w : World) : Calls Try.prog 51 #[] w (MpIs (numT breaks) w) := by
 have hmm := @run_makeMap Try.prog
 have HM := Lib.hid (MapS.made w)
 have HB : Hid (Below w.heap.size w (w.alloc (.map #[] 0))) := Lib.hid ((Below.refl _ _).alloc (Nat.le_refl _) _)
 go_enter Try.func51, Try.ntmps51
 go_wp2_with (refine wpList_insS rfl rfl _ _ _ _ rfl 9 3 Try.underlying93 Try.underlying9 w.heap.size _ rfl HM.out _ rfl _ rfl (by rfl) ?_; intro w' h1 h2; have HM := Lib.hid h1; have HB := Lib.hid (h2 _ _ (Nat.le_refl _) HB.out); clear h1 h2)
 go_ret
 exact ⟨_, rfl, HM.out, HB.out, Nat.le_refl _⟩
theorem cbreak_any (v : List Tk.Tok) (hm : v.length <= 1000) (hs : ∀ x ∈ v, x.2.1.size <= 90000) (A : Option Addr) (cap : Nat) (w : World) (h : Ts w w.heap.size A v) :
 Calls Try.prog 25 #[.slice A v.length cap] w (LaIs (breakS (rd v)) w) := by
 have hf := field_vt
 have CR : Hid (∀ W, Below w.heap.size w W -> Calls Try.prog 34 #[.slice A v.length cap] W (RdIs (rd v) W)) := Lib.hid fun W hb => cread_any v hm A cap W (h.next hb)
 have hL := rd_in (v := v)
 have hls : ∀ x ∈ rd v, x.2.1.size <= 90000 := fun x hx => hs x (hL.2 x hx)
 have CW : Hid (∀ A c W, Ts W W.heap.size A (rd v) -> Calls Try.prog 35 #[.slice A (rd v).length c] W (Sg (wrd (rd v)) W)) := Lib.hid fun A c W hT => cword_any (rd v) (by omega) hls A c W hT
 have HV : Hid (breakS (rd v) = Vl.look breaks (wrd (rd v))) := Lib.hid rfl
 have HL := Lib.hid (look_numT breaks (wrd (rd v)))
 clear h hL hs hm hls
 generalize breakS (rd v) = res at *
 generalize wrd (rd v) = wd at *
 generalize rd v = L at *
 cases hl : Vl.look breaks wd with
 | none =>
   rw [hl] at HL HV
   clear hl
   go_enter Try.func25, Try.ntmps25
   go_wp2_with (first | (go_at_call 51; ((with_reducible refine (cbreaks_any _).mono ?_); rintro e w1 ⟨M, rfl, hM, b1, _⟩; have HB1 := Lib.hid b1; have HM1 := Lib.hid hM; clear b1 hM)) | (go_at_call 34; ((with_reducible refine (CR.out _ HB1.out).mono ?_); rintro e w2 ⟨A2, C2, c2, d2, rfl, hc2, hd2, T2, B2, b2⟩; have HB2 := Lib.hid (below_next HB1.out b2); have HM2 := Lib.hid (HM1.out.next b2); have HT2 := Lib.hid T2; clear b2 T2 B2)) | (go_at_call 35; ((with_reducible refine (CW.out _ _ _ HT2.out).mono ?_); rintro e w3 ⟨rfl, b3⟩; have HB3 := Lib.hid (below_next HB2.out b3); have HM3 := Lib.hid (HM2.out.next b3); clear b3)) | (at_lookup; refine wpList_lookS rfl _ _ 93 rfl 9 3 Try.underlying93 Try.underlying9 (.int .i64 0) (zero_int _) M _ rfl HM3.out wd rfl (.int .i64 0) false HL.out (fun _ => rfl) ?_))
   go_ret2
   exact ⟨0, false, rfl, HB3.out, fun _ => rfl, HV.out⟩
 | some n =>
   rw [hl] at HL HV
   clear hl
   go_enter Try.func25, Try.ntmps25
   go_wp2_with (first | (go_at_call 51; ((with_reducible refine (cbreaks_any _).mono ?_); rintro e w1 ⟨M, rfl, hM, b1, _⟩; have HB1 := Lib.hid b1; have HM1 := Lib.hid hM; clear b1 hM)) | (go_at_call 34; ((with_reducible refine (CR.out _ HB1.out).mono ?_); rintro e w2 ⟨A2, C2, c2, d2, rfl, hc2, hd2, T2, B2, b2⟩; have HB2 := Lib.hid (below_next HB1.out b2); have HM2 := Lib.hid (HM1.out.next b2); have HT2 := Lib.hid T2; clear b2 T2 B2)) | (go_at_call 35; ((with_reducible refine (CW.out _ _ _ HT2.out).mono ?_); rintro e w3 ⟨rfl, b3⟩; have HB3 := Lib.hid (below_next HB2.out b3); have HM3 := Lib.hid (HM2.out.next b3); clear b3)) | (at_lookup; refine wpList_lookS rfl _ _ 93 rfl 9 3 Try.underlying93 Try.underlying9 (.int .i64 0) (zero_int _) M _ rfl HM3.out wd rfl (.int .i64 n) true HL.out (fun h => (by cases h)) ?_))
   go_ret2
   exact ⟨n, true, rfl, HB3.out, fun h => (by cases h), HV.out⟩
theorem cstyle_any (s : ByteArray) (hs : s.size <= 90000) (w : World) :
 Calls Try.prog 31 #[.string s] w (Nu (sty (Ru.lowS s)) w) := by
 have CL : Hid (∀ W, Calls Try.prog 47 #[.string s] W (Sg (Ru.lowS s) W)) := Lib.hid fun W => lower_any s W hs
 have HV : Hid (sty (Ru.lowS s) = (Vl.look styles (Ru.lowS s)).getD (-1)) := Lib.hid rfl
 have HL := Lib.hid (look_numT styles (Ru.lowS s))
 clear hs
 generalize sty (Ru.lowS s) = res at *
 generalize Ru.lowS s = wd at *
 cases hl : Vl.look styles wd with
 | none =>
   rw [hl] at HL HV
   clear hl
   go_enter Try.func31, Try.ntmps31
   go_wp2_with (first | (go_at_call 57; ((with_reducible refine (cstyles_any _).mono ?_); rintro e w1 ⟨M, rfl, hM, b1, _⟩; have HB1 := Lib.hid b1; have HM1 := Lib.hid hM; clear b1 hM)) | (go_at_call 47; ((with_reducible refine (CL.out _).mono ?_); rintro e w3 ⟨rfl, b3⟩; have HB3 := Lib.hid (below_next HB1.out b3); have HM3 := Lib.hid (HM1.out.next b3); clear b3)) | (at_lookup; refine wpList_lookS rfl _ _ 93 rfl 9 3 Try.underlying93 Try.underlying9 (.int .i64 0) (zero_int _) M _ rfl HM3.out wd rfl (.int .i64 0) false HL.out (fun _ => rfl) ?_))
   go_ret
   rw [HV.out]
   exact ⟨rfl, HB3.out⟩
 | some n =>
   rw [hl] at HL HV
   clear hl
   go_enter Try.func31, Try.ntmps31
   go_wp2_with (first | (go_at_call 57; ((with_reducible refine (cstyles_any _).mono ?_); rintro e w1 ⟨M, rfl, hM, b1, _⟩; have HB1 := Lib.hid b1; have HM1 := Lib.hid hM; clear b1 hM)) | (go_at_call 47; ((with_reducible refine (CL.out _).mono ?_); rintro e w3 ⟨rfl, b3⟩; have HB3 := Lib.hid (below_next HB1.out b3); have HM3 := Lib.hid (HM1.out.next b3); clear b3)) | (at_lookup; refine wpList_lookS rfl _ _ 93 rfl 9 3 Try.underlying93 Try.underlying9 (.int .i64 0) (zero_int _) M _ rfl HM3.out wd rfl (.int .i64 n) true HL.out (fun h => (by cases h)) ?_))
   go_ret
   rw [HV.out]
   exact ⟨rfl, HB3.out⟩
theorem cname2_any (v : List Tk.Tok) (hm : v.length <= 1000) (hs : ∀ x ∈ v, x.2.1.size <= 90000) (A : Option Addr) (cap : Nat) (w : World) (h : Ts w w.heap.size A v) :
 Calls Try.prog 27 #[.slice A v.length cap] w (OnIs (nameS (rd v)) w) := by
 have hf := field_vt
 have CR : Hid (∀ W, Below w.heap.size w W -> Calls Try.prog 34 #[.slice A v.length cap] W (RdIs (rd v) W)) := Lib.hid fun W hb => cread_any v hm A cap W (h.next hb)
 have hL := rd_in (v := v)
 have hls : ∀ x ∈ rd v, x.2.1.size <= 90000 := fun x hx => hs x (hL.2 x hx)
 have CW : Hid (∀ A c W, Ts W W.heap.size A (rd v) -> Calls Try.prog 35 #[.slice A (rd v).length c] W (Sg (wrd (rd v)) W)) := Lib.hid fun A c W hT => cword_any (rd v) (by omega) hls A c W hT
 have HV : Hid (nameS (rd v) = if wrd (rd v) = wAuto then some ⟨#[]⟩ else only (rd v)) := Lib.hid rfl
 have CO : Hid (∀ A c W, (rd v).length <= c -> Ts W W.heap.size A (rd v) -> Calls Try.prog 53 #[.slice A (rd v).length c] W (OnIs (only (rd v)) W)) := Lib.hid fun A c W hc hT => conly_any (rd v) (by omega) hls A c hc W hT
 clear h hL hs hm hls
 generalize nameS (rd v) = res at *
 generalize only (rd v) = on at *
 generalize wrd (rd v) = wd at *
 generalize rd v = L at *
 by_cases h1 : wd = wAuto
 ·have e1 := str_yesL [97, 117, 116, 111] h1
  have HX : Hid (res = some ⟨#[]⟩) := Lib.hid (by rw [HV.out, if_pos h1])
  clear HV h1
  go_enter Try.func27, Try.ntmps27
  go_wp2_with (first | (go_at_call 34; ((with_reducible refine (CR.out _ (Below.refl _ _)).mono ?_); rintro e w2 ⟨A2, C2, c2, d2, rfl, hc2, hd2, T2, B2, b2⟩; have HB2 := Lib.hid b2; have HT2 := Lib.hid T2; clear b2 T2 B2)) | (go_at_call 35; ((with_reducible refine (CW.out _ _ _ HT2.out).mono ?_); rintro e w3 ⟨rfl, b3⟩; have HB3 := Lib.hid (below_next HB2.out b3); have HT3 := Lib.hid (HT2.out.next b3); clear b3)))
  go_ret2
  exact ⟨⟨#[]⟩, true, rfl, HB3.out, fun h => (by cases h), HX.out⟩
 ·have e1 := str_noL [97, 117, 116, 111] h1
  have HX : Hid (res = on) := Lib.hid (by rw [HV.out, if_neg h1])
  clear HV h1
  go_enter Try.func27, Try.ntmps27
  go_wp2_with (first | (go_at_call 34; ((with_reducible refine (CR.out _ (Below.refl _ _)).mono ?_); rintro e w2 ⟨A2, C2, c2, d2, rfl, hc2, hd2, T2, B2, b2⟩; have HB2 := Lib.hid b2; have HT2 := Lib.hid T2; clear b2 T2 B2)) | (go_at_call 35; ((with_reducible refine (CW.out _ _ _ HT2.out).mono ?_); rintro e w3 ⟨rfl, b3⟩; have HB3 := Lib.hid (below_next HB2.out b3); have HT3 := Lib.hid (HT2.out.next b3); clear b3)) | (go_at_call 53; ((with_reducible refine (CO.out _ _ _ hc2 HT3.out).mono ?_); rintro e w4 ⟨s, b, rfl, b4, hb, ho⟩; have HB4 := Lib.hid (below_next HB3.out b4); have HO := Lib.hid ho; clear b4 ho)))
  go_ret2
  exact ⟨s, b, rfl, HB4.out, hb, by rw [HX.out]; exact HO.out⟩
end Go.Proofs.Ytaofkaehhikfaaa
namespace Go.Proofs.Ytaofkaehhikfaaa
namespace Tk
open Ru
def at' (l : List Int) (k : Nat) : Int := if k < l.length then g l k else -1
def esc (l : List Int) (k : Nat) : Bool := decide (at' l k = 92 /\ 0 <= at' l (k + 1) /\ at' l (k + 1) ≠ 10)
def hexR : Nat -> List Int -> Nat -> Int -> Int × Nat
 | 0, _, j, n => (n, j)
 | f + 1, l, j, n => if 0 <= hexV (at' l j) then hexR f l (j + 1) (n * 16 + hexV (at' l j)) else (n, j)
def meant (l : List Int) (k : Nat) : Int × Nat :=
 if (hexR 6 l (k + 1) 0).2 = k + 1 then (g l (k + 1), k + 2)
 else (if (hexR 6 l (k + 1) 0).1 = 0 ∨ isB (hexR 6 l (k + 1) 0).1 = false then 65533 else (hexR 6 l (k + 1) 0).1,
  if whiB (at' l (hexR 6 l (k + 1) 0).2) = true then (hexR 6 l (k + 1) 0).2 + 1 else (hexR 6 l (k + 1) 0).2)
def may (l : List Int) (k : Nat) : Bool := begB (at' l k) || esc l k
def begs (l : List Int) (k : Nat) : Bool := may l k || (decide (at' l k = 45) && (may l (k + 1) || decide (at' l (k + 1) = 45)))
def inN (l : List Int) (k : Nat) : Bool := esc l k || witB (at' l k)
def oneN (l : List Int) (k : Nat) : Int × Nat := if at' l k = 92 then meant l k else (at' l k, k + 1)
def nameF : Nat -> List Int -> Nat -> List Int × Nat
 | 0, _, k => ([], k)
 | f + 1, l, k => if inN l k = true then ((oneN l k).1 :: (nameF f l (oneN l k).2).1, (nameF f l (oneN l k).2).2) else ([], k)
def name (l : List Int) (k : Nat) : List Int × Nat := nameF l.length l k
theorem at_lt {l : List Int} {k : Nat} (h : at' l k ≠ -1) : k < l.length := by
 unfold at' at h
 by_cases c : k < l.length
 ·exact c
 ·rw [if_neg c] at h; exact absurd rfl h
theorem at_in {l : List Int} {k : Nat} (h : k < l.length) : at' l k = g l k := by unfold at'; rw [if_pos h]
theorem at_out {l : List Int} {k : Nat} (h : ¬ k < l.length) : at' l k = -1 := by unfold at'; rw [if_neg h]
theorem hexV_out : hexV (-1) = -1 := by decide
theorem hexV_le (c : Int) : -1 <= hexV c /\ hexV c <= 15 := by unfold hexV; omega
theorem hexR_le : ∀ (f : Nat) (l : List Int) (j : Nat) (n : Int), j <= (hexR f l j n).2 /\ (hexR f l j n).2 <= j + f /\ (j <= l.length -> (hexR f l j n).2 <= l.length)
 | 0, _, _, _ => by unfold hexR; simp
 | f + 1, l, j, n => by
   unfold hexR
   by_cases c : 0 <= hexV (at' l j)
   ·rw [if_pos c]
    have ih := hexR_le f l (j + 1) (n * 16 + hexV (at' l j))
    have hj : j < l.length := at_lt (fun e => by rw [e, hexV_out] at c; omega)
    omega
   ·rw [if_neg c]; simp
theorem hexR_val : ∀ (f : Nat) (l : List Int) (j : Nat) (n B : Int), 0 <= n -> n < B -> 0 <= (hexR f l j n).1 /\ (hexR f l j n).1 < B * 16 ^ f
 | 0, _, _, n, B, h0, h1 => by unfold hexR; simp; omega
 | f + 1, l, j, n, B, h0, h1 => by
   unfold hexR
   have hp : (16 : Int) ^ (f + 1) = 16 * 16 ^ f := by rw [Int.pow_succ, Int.mul_comm]
   have hq : B * 16 ^ (f + 1) = (B * 16) * 16 ^ f := by rw [hp, Int.mul_assoc]
   rw [hq]
   by_cases c : 0 <= hexV (at' l j)
   ·rw [if_pos c]
    have hh := hexV_le (at' l j)
    exact hexR_val f l (j + 1) _ (B * 16) (by omega) (by omega)
   ·rw [if_neg c]
    have hpos : (1 : Int) <= 16 ^ f := Int.pow_pos (by decide)
    refine ⟨h0, ?_⟩
    have : (B * 16) * 1 <= (B * 16) * 16 ^ f := Int.mul_le_mul_of_nonneg_left hpos (by omega)
    show n < _
    omega
theorem esc_lt {l : List Int} {k : Nat} (h : esc l k = true) : k + 1 < l.length /\ at' l k = 92 /\ at' l (k + 1) ≠ 10 := by
 unfold esc at h
 have := of_decide_eq_true h
 exact ⟨at_lt (fun e => by omega), this.1, this.2.2⟩
theorem meant_le {l : List Int} {k : Nat} (h : k + 1 < l.length) : k + 2 <= (meant l k).2 /\ (meant l k).2 <= l.length := by
 have hr := hexR_le 6 l (k + 1) 0
 unfold meant
 split
 ·simp only; omega
 ·rename_i h1
  simp only
  split
  ·rename_i h2
   have hw : (hexR 6 l (k + 1) 0).2 < l.length := at_lt (fun e => by rw [e] at h2; revert h2; decide)
   omega
  ·omega
theorem begB_out : begB (-1) = false := by decide
theorem witB_out : witB (-1) = false := by decide
theorem inN_lt {l : List Int} {k : Nat} (h : inN l k = true) : k < l.length := by
 unfold inN at h
 rw [Bool.or_eq_true] at h
 rcases h with h | h
 ·have := (esc_lt h).1; omega
 ·exact at_lt (fun e => by rw [e, witB_out] at h; cases h)
theorem inN_esc {l : List Int} {k : Nat} (h : inN l k = true) (h92 : at' l k = 92) : esc l k = true := by
 unfold inN at h
 rw [Bool.or_eq_true] at h
 rcases h with h | h
 ·exact h
 ·rw [h92, show witB 92 = false by decide] at h; cases h
theorem oneN_le {l : List Int} {k : Nat} (h : inN l k = true) : k + 1 <= (oneN l k).2 /\ (oneN l k).2 <= l.length := by
 have hk := inN_lt h
 unfold oneN
 split
 ·rename_i h92
  have := meant_le (esc_lt (inN_esc h h92)).1
  omega
 ·simp only; omega
theorem nameF_more : ∀ (f : Nat) (l : List Int) (k : Nat), l.length - k <= f -> nameF f l k = nameF (l.length - k) l k
 | 0, l, k, h => by rw [show l.length - k = 0 by omega]
 | f + 1, l, k, h => by
   by_cases hi : inN l k = true
   ·have hk := inN_lt hi
    have ho := oneN_le hi
    obtain ⟨m, hm⟩ : ∃ m, l.length - k = m + 1 := ⟨l.length - k - 1, by omega⟩
    rw [hm]
    unfold nameF
    rw [if_pos hi, if_pos hi, nameF_more f _ _ (by omega), nameF_more m _ _ (by omega)]
   ·obtain ⟨m, hm⟩ : ∃ m, l.length - k = m := ⟨_, rfl⟩
    rw [hm]
    cases m with
    | zero => unfold nameF; rw [if_neg hi]
    | succ m => unfold nameF; rw [if_neg hi, if_neg hi]
termination_by f => f
theorem name_yes {l : List Int} {k : Nat} (h : inN l k = true) : name l k = ((oneN l k).1 :: (name l (oneN l k).2).1, (name l (oneN l k).2).2) := by
 have hk := inN_lt h
 have ho := oneN_le h
 obtain ⟨m, hm⟩ : ∃ m, l.length = m + 1 := ⟨l.length - 1, by omega⟩
 unfold name
 rw [nameF_more l.length l (oneN l k).2 (by omega), <- nameF_more m l (oneN l k).2 (by omega)]
 rw [hm]
 conv => lhs; unfold nameF
 rw [if_pos h]
theorem name_no {l : List Int} {k : Nat} (h : inN l k = false) : name l k = ([], k) := by
 unfold name
 cases hl : l.length with
 | zero => unfold nameF; rfl
 | succ m => unfold nameF; rw [if_neg (by rw [h]; decide)]
end Tk
end Go.Proofs.Ytaofkaehhikfaaa
namespace Go.Proofs.Ytaofkaehhikfaaa
namespace Tk
open Ru
def cmtF : Nat -> List Int -> Nat -> Nat
 | 0, _, j => j
 | f + 1, l, j => if j < l.length /\ ¬ (g l j = 42 /\ at' l (j + 1) = 47) then cmtF f l (j + 1) else j
def cmtE (l : List Int) (j : Nat) : Nat := cmtF l.length l j
def cmt (l : List Int) (k : Nat) : Nat := min (cmtE l (k + 2) + 2) l.length
def opn (l : List Int) (k : Nat) : Bool := decide (at' l k = 47 /\ at' l (k + 1) = 42)
def spF : Nat -> List Int -> Nat -> Bool -> Nat × Bool
 | 0, _, k, b => (k, b)
 | f + 1, l, k, b => if whiB (at' l k) = true then spF f l (k + 1) true else if opn l k = true then spF f l (cmt l k) b else (k, b)
def sp (l : List Int) (k : Nat) (b : Bool) : Nat × Bool := spF l.length l k b
theorem whiB_out : whiB (-1) = false := by decide
theorem whi_lt {l : List Int} {k : Nat} (h : whiB (at' l k) = true) : k < l.length := at_lt (fun e => by rw [e, whiB_out] at h; cases h)
theorem opn_lt {l : List Int} {k : Nat} (h : opn l k = true) : k + 1 < l.length := by
 unfold opn at h
 have := of_decide_eq_true h
 exact at_lt (fun e => by omega)
theorem cmtF_le : ∀ (f : Nat) (l : List Int) (j : Nat), j <= cmtF f l j /\ (j <= l.length -> cmtF f l j <= l.length)
 | 0, _, _ => by unfold cmtF; simp
 | f + 1, l, j => by
   unfold cmtF
   split
   ·have := cmtF_le f l (j + 1); omega
   ·simp
theorem cmtF_more : ∀ (f : Nat) (l : List Int) (j : Nat), l.length - j <= f -> cmtF f l j = cmtF (l.length - j) l j
 | 0, l, k, h => by rw [show l.length - k = 0 by omega]
 | f + 1, l, k, h => by
   by_cases hi : k < l.length /\ ¬ (g l k = 42 /\ at' l (k + 1) = 47)
   ·obtain ⟨m, hm⟩ : ∃ m, l.length - k = m + 1 := ⟨l.length - k - 1, by omega⟩
    rw [hm]
    unfold cmtF
    rw [if_pos hi, if_pos hi, cmtF_more f _ _ (by omega), cmtF_more m _ _ (by omega)]
   ·obtain ⟨m, hm⟩ : ∃ m, l.length - k = m := ⟨_, rfl⟩
    rw [hm]
    cases m with
    | zero => unfold cmtF; rw [if_neg hi]
    | succ m => unfold cmtF; rw [if_neg hi, if_neg hi]
termination_by f => f
theorem cmtE_yes {l : List Int} {j : Nat} (h : j < l.length /\ ¬ (g l j = 42 /\ at' l (j + 1) = 47)) : cmtE l j = cmtE l (j + 1) := by
 obtain ⟨m, hm⟩ : ∃ m, l.length = m + 1 := ⟨l.length - 1, by omega⟩
 unfold cmtE
 rw [cmtF_more l.length l (j + 1) (by omega), <- cmtF_more m l (j + 1) (by omega), hm]
 conv => lhs; unfold cmtF
 rw [if_pos h]
theorem cmtE_no {l : List Int} {j : Nat} (h : ¬ (j < l.length /\ ¬ (g l j = 42 /\ at' l (j + 1) = 47))) : cmtE l j = j := by
 unfold cmtE
 cases hl : l.length with
 | zero => rfl
 | succ m => conv => lhs; unfold cmtF
             rw [if_neg h]
theorem cmt_le {l : List Int} {k : Nat} (h : opn l k = true) : k + 2 <= cmt l k /\ cmt l k <= l.length := by
 have h1 := opn_lt h
 have h2 := cmtF_le l.length l (k + 2)
 unfold cmt cmtE
 omega
theorem spF_more : ∀ (f : Nat) (l : List Int) (k : Nat) (b : Bool), l.length - k <= f -> spF f l k b = spF (l.length - k) l k b
 | 0, l, k, b, h => by rw [show l.length - k = 0 by omega]
 | f + 1, l, k, b, h => by
   obtain ⟨m, hm⟩ : ∃ m, l.length - k = m := ⟨_, rfl⟩
   rw [hm]
   by_cases hw : whiB (at' l k) = true
   ·have hk := whi_lt hw
    cases m with
    | zero => omega
    | succ m =>
      unfold spF
      rw [if_pos hw, if_pos hw, spF_more f _ _ _ (by omega), spF_more m _ _ _ (by omega)]
   ·by_cases ho : opn l k = true
    ·have hk := opn_lt ho
     have hc := cmt_le ho
     cases m with
     | zero => omega
     | succ m =>
       unfold spF
       rw [if_neg hw, if_pos ho, if_neg hw, if_pos ho, spF_more f _ _ _ (by omega), spF_more m _ _ _ (by omega)]
    ·cases m with
     | zero => unfold spF; rw [if_neg hw, if_neg ho]
     | succ m => unfold spF; rw [if_neg hw, if_neg ho, if_neg hw, if_neg ho]
termination_by f => f
theorem sp_white {l : List Int} {k : Nat} {b : Bool} (h : whiB (at' l k) = true) : sp l k b = sp l (k + 1) true := by
 have hk := whi_lt h
 obtain ⟨m, hm⟩ : ∃ m, l.length = m + 1 := ⟨l.length - 1, by omega⟩
 unfold sp
 rw [spF_more l.length l (k + 1) true (by omega), <- spF_more m l (k + 1) true (by omega), hm]
 conv => lhs; unfold spF
 rw [if_pos h]
theorem sp_opn {l : List Int} {k : Nat} {b : Bool} (h : whiB (at' l k) = false) (ho : opn l k = true) : sp l k b = sp l (cmt l k) b := by
 have hk := opn_lt ho
 have hc := cmt_le ho
 obtain ⟨m, hm⟩ : ∃ m, l.length = m + 1 := ⟨l.length - 1, by omega⟩
 unfold sp
 rw [spF_more l.length l (cmt l k) b (by omega), <- spF_more m l (cmt l k) b (by omega), hm]
 conv => lhs; unfold spF
 rw [if_neg (by rw [h]; decide), if_pos ho]
theorem sp_no {l : List Int} {k : Nat} {b : Bool} (h : whiB (at' l k) = false) (ho : opn l k = false) : sp l k b = (k, b) := by
 unfold sp
 cases hl : l.length with
 | zero => rfl
 | succ m => conv => lhs; unfold spF
             rw [if_neg (by rw [h]; decide), if_neg (by rw [ho]; decide)]
theorem spF_le : ∀ (f : Nat) (l : List Int) (k : Nat) (b : Bool), k <= (spF f l k b).1 /\ (k <= l.length -> (spF f l k b).1 <= l.length)
 | 0, _, _, _ => by unfold spF; simp
 | f + 1, l, k, b => by
   unfold spF
   split
   ·rename_i hw
    have := whi_lt hw
    have := spF_le f l (k + 1) true
    omega
   ·split
    ·rename_i ho
     have := cmt_le ho
     have := spF_le f l (cmt l k) b
     omega
    ·simp
theorem sp_le (l : List Int) (k : Nat) (b : Bool) (h : k <= l.length) : k <= (sp l k b).1 /\ (sp l k b).1 <= l.length := by
 have := spF_le l.length l k b
 unfold sp
 exact ⟨this.1, this.2 h⟩
def push (c : Int) (r : Int × List Int × Nat) : Int × List Int × Nat := (r.1, c :: r.2.1, r.2.2)
def qF : Nat -> List Int -> Int -> Nat -> Int × List Int × Nat
 | 0, l, _, k => (6, [], min (k + 1) l.length)
 | f + 1, l, e, k =>
   if ¬ (k < l.length /\ g l k ≠ e) then (6, [], min (k + 1) l.length)
   else if g l k = 10 then (7, [], k)
   else if esc l k = true then push (meant l k).1 (qF f l e (meant l k).2)
   else if g l k = 92 then qF f l e (k + 2)
   else push (g l k) (qF f l e (k + 1))
def qq (l : List Int) (e : Int) (k : Nat) : Int × List Int × Nat := qF l.length l e k
theorem qF_more : ∀ (f : Nat) (l : List Int) (e : Int) (k : Nat), l.length - k <= f -> qF f l e k = qF (l.length - k) l e k
 | 0, l, e, k, h => by rw [show l.length - k = 0 by omega]
 | f + 1, l, e, k, h => by
   obtain ⟨m, hm⟩ : ∃ m, l.length - k = m := ⟨_, rfl⟩
   rw [hm]
   by_cases h0 : ¬ (k < l.length /\ g l k ≠ e)
   ·cases m with
    | zero => unfold qF; rw [if_pos h0]
    | succ m => unfold qF; rw [if_pos h0, if_pos h0]
   ·cases m with
    | zero => omega
    | succ m =>
      unfold qF
      rw [if_neg h0, if_neg h0]
      by_cases h1 : g l k = 10
      ·rw [if_pos h1, if_pos h1]
      ·rw [if_neg h1, if_neg h1]
       by_cases h2 : esc l k = true
       ·have hl := meant_le (esc_lt h2).1
        rw [if_pos h2, if_pos h2, qF_more f _ _ _ (by omega), qF_more m _ _ _ (by omega)]
       ·rw [if_neg h2, if_neg h2]
        by_cases h3 : g l k = 92
        ·rw [if_pos h3, if_pos h3, qF_more f _ _ _ (by omega), qF_more m _ _ _ (by omega)]
        ·rw [if_neg h3, if_neg h3, qF_more f _ _ _ (by omega), qF_more m _ _ _ (by omega)]
termination_by f => f
theorem qq_end {l : List Int} {e : Int} {k : Nat} (h : ¬ (k < l.length /\ g l k ≠ e)) : qq l e k = (6, [], min (k + 1) l.length) := by
 unfold qq
 cases hl : l.length with
 | zero => conv => lhs; unfold qF
           rw [hl]
 | succ m => conv => lhs; unfold qF
             rw [if_pos h, hl]
theorem qq_step {l : List Int} {e : Int} {k : Nat} (h : k < l.length /\ g l k ≠ e) : qq l e k =
 if g l k = 10 then (7, [], k)
 else if esc l k = true then push (meant l k).1 (qq l e (meant l k).2)
 else if g l k = 92 then qq l e (k + 2)
 else push (g l k) (qq l e (k + 1)) := by
 obtain ⟨m, hm⟩ : ∃ m, l.length = m + 1 := ⟨l.length - 1, by omega⟩
 have mo : ∀ j, k < j -> qF l.length l e j = qF m l e j := fun j hj => by rw [qF_more l.length l e j (by omega), qF_more m l e j (by omega)]
 unfold qq
 by_cases h1 : g l k = 10
 ·rw [if_pos h1, hm]; conv => lhs; unfold qF
  rw [if_neg (fun hh => hh h), if_pos h1]
 ·rw [if_neg h1]
  by_cases h2 : esc l k = true
  ·have hl := meant_le (esc_lt h2).1
   rw [if_pos h2, mo (meant l k).2 (by omega), hm]; conv => lhs; unfold qF
   rw [if_neg (fun hh => hh h), if_neg h1, if_pos h2]
  ·rw [if_neg h2]
   by_cases h3 : g l k = 92
   ·rw [if_pos h3, mo (k + 2) (by omega), hm]; conv => lhs; unfold qF
    rw [if_neg (fun hh => hh h), if_neg h1, if_neg h2, if_pos h3]
   ·rw [if_neg h3, mo (k + 1) (by omega), hm]; conv => lhs; unfold qF
    rw [if_neg (fun hh => hh h), if_neg h1, if_neg h2, if_neg h3]
theorem qF_le : ∀ (f : Nat) (l : List Int) (e : Int) (k : Nat), k <= l.length -> k <= (qF f l e k).2.2 /\ (qF f l e k).2.2 <= l.length
 | 0, l, e, k, h => by unfold qF; simp only; omega
 | f + 1, l, e, k, h => by
   unfold qF
   split
   ·simp only; omega
   ·rename_i h0
    have hk : k < l.length := by
     by_cases c : k < l.length
     ·exact c
     ·exact absurd (fun hh => c hh.1) h0
    split
    ·simp only; omega
    ·split
     ·rename_i h2
      have hl := meant_le (esc_lt h2).1
      have := qF_le f l e (meant l k).2 hl.2
      unfold push; simp only; omega
     ·split
      ·by_cases c : k + 2 <= l.length
       ·have := qF_le f l e (k + 2) c; omega
       ·have h3 : k + 1 = l.length := by omega
        cases f with
        | zero => unfold qF; simp only; omega
        | succ f => unfold qF; rw [if_pos (by omega)]; simp only; omega
      ·have := qF_le f l e (k + 1) (by omega)
       unfold push; simp only; omega
end Tk
end Go.Proofs.Ytaofkaehhikfaaa
namespace Go.Proofs.Ytaofkaehhikfaaa
open Go.RowKit
namespace Tk
open Ru
def ascL (l : List Int) (k : Nat) : List Int := (l.drop k).takeWhile fun c => decide (c < 128)
theorem ascL_yes {l : List Int} {k : Nat} (h : k < l.length) (h2 : g l k < 128) : ascL l k = g l k :: ascL l (k + 1) := by
 unfold ascL
 rw [List.drop_eq_getElem_cons h, List.takeWhile_cons, <- g_eq h, decide_eq_true h2]; rfl
theorem ascL_no {l : List Int} {k : Nat} (h : ¬ (k < l.length /\ g l k < 128)) : ascL l k = [] := by
 unfold ascL
 by_cases c : k < l.length
 ·rw [List.drop_eq_getElem_cons c, List.takeWhile_cons, <- g_eq c, decide_eq_false (fun h2 => h ⟨c, h2⟩)]; rfl
 ·rw [List.drop_eq_nil_of_le (by omega)]; rfl
theorem ascL_len (l : List Int) (k : Nat) : (ascL l k).length <= l.length - k := by
 unfold ascL
 have h := (List.takeWhile_sublist (l := l.drop k) (fun c => decide (c < 128))).length_le
 rw [List.length_drop] at h
 exact h
def u8 (c : Int) : UInt8 := UInt8.ofNat c.toNat
def Sp (t : ByteArray) (ds : List Int) : Prop := t.data.toList = ds.map u8
theorem sp_nil : Sp ⟨#[]⟩ [] := rfl
theorem sp_next {t : ByteArray} {ds : List Int} {x : Int} (h : Sp t ds) : Sp (t ++ ⟨#[UInt8.ofNat x.toNat]⟩) (ds ++ [x]) := by
 unfold Sp at *
 rw [ByteArray.data_append, Array.toList_append, h, List.map_append]; rfl
theorem sp_str {t : ByteArray} {ds : List Int} (h : Sp t ds) : t = strOfNums ds := by
 unfold Sp at h
 have : t = ⟨t.data⟩ := rfl
 rw [this]
 unfold strOfNums
 congr 1
 rw [<- Array.toArray_toList (xs := t.data), h]
 rfl
theorem sp_len {t : ByteArray} {ds : List Int} (h : Sp t ds) : t.size = ds.length := by rw [sp_str h, strOfNums_size]
end Tk
namespace Fx
def at' (l : List UInt8) (k : Nat) : UInt8 := l.getD k 0
def isD (c : UInt8) : Bool := decide (48 <= (c.toNat : Int) /\ (c.toNat : Int) <= 57)
def sgn (l : List UInt8) (k : Nat) : Nat := if (at' l k = 43 ∨ at' l k = 45) then k + 1 else k
def dig (l : List UInt8) (k : Nat) : Nat := k + ((l.drop k).takeWhile isD).length
theorem get_at (s : ByteArray) (k : Nat) (h : k < s.size) : at' s.data.toList k = s[k] := by
 unfold at'
 have h' : k < s.data.toList.length := by simpa using h
 rw [List.getD_eq_getElem?_getD, List.getElem?_eq_getElem h']; rfl
theorem get_past (s : ByteArray) (k : Nat) (h : s.size <= k) : at' s.data.toList k = 0 := by
 unfold at'
 have h' : s.data.toList.length <= k := by simpa using h
 rw [List.getD_eq_getElem?_getD, List.getElem?_eq_none h']; rfl
theorem dig_no (l : List UInt8) (k : Nat) (h : isD (at' l k) = false) : dig l k = k := by
 unfold at' at h
 unfold dig
 by_cases hk : k < l.length
 ·rw [List.drop_eq_getElem_cons hk, List.takeWhile_cons]
  rw [List.getD_eq_getElem?_getD, List.getElem?_eq_getElem hk] at h
  simp at h; simp [h]
 ·rw [List.drop_eq_nil_of_le (by omega)]; rfl
theorem isD_zero : isD 0 = false := by decide
theorem dig_yes (l : List UInt8) (k : Nat) (h : isD (at' l k) = true) : dig l k = dig l (k + 1) := by
 unfold at' at h
 have hk : k < l.length := by
  by_cases hk : k < l.length
  ·exact hk
  ·rw [List.getD_eq_getElem?_getD, List.getElem?_eq_none (by omega)] at h; exact absurd h (by decide)
 unfold dig
 rw [List.drop_eq_getElem_cons hk, List.takeWhile_cons]
 rw [List.getD_eq_getElem?_getD, List.getElem?_eq_getElem hk] at h
 simp at h; simp [h]; omega
theorem dig_lo (l : List UInt8) (k : Nat) : k <= dig l k := by unfold dig; omega
theorem dig_hi (l : List UInt8) (k : Nat) (h : k <= l.length) : dig l k <= l.length := by
 unfold dig
 have h1 : ((l.drop k).takeWhile isD).length <= (l.drop k).length := List.takeWhile_sublist .. |>.length_le
 simp at h1; omega
theorem isD_of {c : UInt8} (h : 48 <= (c.toNat : Int)) (h' : (c.toNat : Int) <= 57) : isD c = true := by
 unfold isD; exact decide_eq_true ⟨h, h'⟩
theorem isD_not {c : UInt8} (h : (c.toNat : Int) < 48 ∨ 57 < (c.toNat : Int)) : isD c = false := by
 unfold isD; exact decide_eq_false (by omega)
end Fx
theorem byte_eq {c : UInt8} {n : Nat} (hn : n < 256) : ((c.toNat : Int) == (n : Int)) = true ↔ c = UInt8.ofNat n := by
 rw [beq_iff_eq]
 constructor
 ·intro h; apply UInt8.toNat_inj.1; rw [UInt8.toNat_ofNat']; omega
 ·rintro rfl; rw [UInt8.toNat_ofNat']; omega
namespace Fx
def spS (l : List UInt8) : Nat := sgn l 0
def spW (l : List UInt8) : Nat := dig l (spS l)
def spDof (l : List UInt8) (w : Nat) : Nat := if at' l w = 46 /\ w + 1 < dig l (w + 1) then dig l (w + 1) else w
def spD (l : List UInt8) : Nat := spDof l (spW l)
def spEof (l : List UInt8) (d : Nat) : Nat := if (at' l d = 101 ∨ at' l d = 69) /\ sgn l (d + 1) < dig l (sgn l (d + 1)) then dig l (sgn l (d + 1)) else d
def spE (l : List UInt8) : Nat := spEof l (spD l)
theorem sgn_lo (l : List UInt8) (k : Nat) : k <= sgn l k := by unfold sgn; split <;> omega
theorem at_zero {l : List UInt8} {k : Nat} (h : ¬ k < l.length) : at' l k = 0 := by
 unfold at'; rw [List.getD_eq_getElem?_getD, List.getElem?_eq_none (by omega)]; rfl
theorem sgn_hi (l : List UInt8) (k : Nat) (h : k <= l.length) : sgn l k <= l.length := by
 unfold sgn
 by_cases hk : k < l.length
 ·split <;> omega
 ·rw [at_zero hk]; simp; exact h
theorem spS_hi (l : List UInt8) : spS l <= l.length := sgn_hi l 0 (Nat.zero_le _)
theorem spS_one (l : List UInt8) : spS l <= 1 := by unfold spS sgn; split <;> omega
theorem spW_hi (l : List UInt8) : spW l <= l.length := dig_hi l _ (spS_hi l)
theorem spW_lo (l : List UInt8) : spS l <= spW l := dig_lo l _
theorem spDof_lo (l : List UInt8) (w : Nat) : w <= spDof l w := by unfold spDof; split <;> omega
theorem spDof_hi (l : List UInt8) (w : Nat) (h : w <= l.length) : spDof l w <= l.length := by
 unfold spDof; split
 ·rename_i hc
  by_cases hw : w < l.length
  ·exact dig_hi l _ (by omega)
  ·rw [at_zero hw] at hc; exact absurd hc.1 (by decide)
 ·exact h
theorem spD_hi (l : List UInt8) : spD l <= l.length := spDof_hi l _ (spW_hi l)
theorem spD_lo (l : List UInt8) : spW l <= spD l := spDof_lo l _
theorem spEof_lo (l : List UInt8) (w : Nat) : w <= spEof l w := by
 unfold spEof; split
 ·have := dig_lo l (sgn l (w + 1)); have := sgn_lo l (w + 1); omega
 ·omega
theorem spEof_hi (l : List UInt8) (w : Nat) (h : w <= l.length) : spEof l w <= l.length := by
 unfold spEof; split
 ·rename_i hc
  by_cases hw : w < l.length
  ·exact dig_hi l _ (sgn_hi l _ (by omega))
  ·rw [at_zero hw] at hc; exact absurd hc.1 (by decide)
 ·exact h
theorem spE_hi (l : List UInt8) : spE l <= l.length := spEof_hi l _ (spD_hi l)
theorem spE_lo (l : List UInt8) : spD l <= spE l := spEof_lo l _
inductive WayD (s : ByteArray) (w d : Nat) : Prop
 | frac (h : w < s.size) (hb : ((s[w].toNat : Int) == 46) = true) (hd : d = dig s.data.toList (w + 1)) (hl : w + 1 < d)
 | point (h : w < s.size) (hb : ((s[w].toNat : Int) == 46) = true) (hd : dig s.data.toList (w + 1) = w + 1) (hw : d = w)
 | other (h : w < s.size) (hb : ((s[w].toNat : Int) == 46) = false) (hw : d = w)
 | past (h : ¬ w < s.size) (hw : d = w)
theorem wayD (s : ByteArray) (w : Nat) : WayD s w (spDof s.data.toList w) := by
 by_cases h : w < s.size
 ·have hg := get_at s w h
  by_cases hb : s[w] = 46
  ·have hb' : ((s[w].toNat : Int) == 46) = true := by rw [hb]; rfl
   by_cases hd : w + 1 < dig s.data.toList (w + 1)
   ·have e : spDof s.data.toList w = dig s.data.toList (w + 1) := by unfold spDof; rw [hg, hb, if_pos ⟨rfl, hd⟩]
    exact .frac h hb' e (by omega)
   ·have e : spDof s.data.toList w = w := by unfold spDof; rw [if_neg (fun c => hd c.2)]
    exact .point h hb' (by have := dig_lo s.data.toList (w + 1); omega) e
  ·have hb' : ((s[w].toNat : Int) == 46) = false := by
    rw [Bool.eq_false_iff]; intro hh; exact hb ((byte_eq (n := 46) (by decide)).1 hh)
   have e : spDof s.data.toList w = w := by unfold spDof; rw [hg, if_neg (fun c => hb c.1)]
   exact .other h hb' e
 ·have e : spDof s.data.toList w = w := by unfold spDof; rw [get_past s w (by omega), if_neg (fun c => absurd c.1 (by decide))]
  exact .past h e
inductive WayE (s : ByteArray) (d e : Nat) : Prop
 | yes (h : d < s.size) (hb : ((s[d].toNat : Int) == 101) = true ∨ (((s[d].toNat : Int) == 101) = false /\ ((s[d].toNat : Int) == 69) = true)) (he : e = dig s.data.toList (sgn s.data.toList (d + 1))) (hl : sgn s.data.toList (d + 1) < e)
 | bare (h : d < s.size) (hb : ((s[d].toNat : Int) == 101) = true ∨ (((s[d].toNat : Int) == 101) = false /\ ((s[d].toNat : Int) == 69) = true)) (hd : dig s.data.toList (sgn s.data.toList (d + 1)) = sgn s.data.toList (d + 1)) (he : e = d)
 | other (h : d < s.size) (hb : ((s[d].toNat : Int) == 101) = false) (hc : ((s[d].toNat : Int) == 69) = false) (he : e = d)
 | past (h : ¬ d < s.size) (he : e = d)
theorem wayE (s : ByteArray) (d : Nat) : WayE s d (spEof s.data.toList d) := by
 by_cases h : d < s.size
 ·have hg := get_at s d h
  by_cases hb : s[d] = 101 ∨ s[d] = 69
  ·have hb' : ((s[d].toNat : Int) == 101) = true ∨ (((s[d].toNat : Int) == 101) = false /\ ((s[d].toNat : Int) == 69) = true) := by
    rcases hb with hb | hb
    ·left; rw [hb]; rfl
    ·right; rw [hb]; exact ⟨rfl, rfl⟩
   by_cases hd : sgn s.data.toList (d + 1) < dig s.data.toList (sgn s.data.toList (d + 1))
   ·have e : spEof s.data.toList d = dig s.data.toList (sgn s.data.toList (d + 1)) := by unfold spEof; rw [hg, if_pos ⟨hb, hd⟩]
    exact .yes h hb' e (by omega)
   ·have e : spEof s.data.toList d = d := by unfold spEof; rw [if_neg (fun c => hd c.2)]
    exact .bare h hb' (by have := dig_lo s.data.toList (sgn s.data.toList (d + 1)); omega) e
  ·have hb1 : ((s[d].toNat : Int) == 101) = false := by
    rw [Bool.eq_false_iff]; intro hh; exact hb (Or.inl ((byte_eq (n := 101) (by decide)).1 hh))
   have hb2 : ((s[d].toNat : Int) == 69) = false := by
    rw [Bool.eq_false_iff]; intro hh; exact hb (Or.inr ((byte_eq (n := 69) (by decide)).1 hh))
   have e : spEof s.data.toList d = d := by unfold spEof; rw [hg, if_neg (fun c => hb c.1)]
   exact .other h hb1 hb2 e
 ·have e : spEof s.data.toList d = d := by unfold spEof; rw [get_past s d (by omega), if_neg (fun c => absurd c.1 (by decide))]
  exact .past h e
end Fx
namespace Fx
def len (l : List UInt8) : Nat := if spD l = spS l then 0 else spE l
theorem len_hi (l : List UInt8) : len l <= l.length := by unfold len; split; omega; exact spE_hi l
end Fx
namespace Fx
theorem isD_dig (l : List UInt8) (i : Nat) : isD (at' l i) = decide (i < dig l i) := by
 cases h : isD (at' l i)
 ·rw [dig_no l i h]; simp
 ·have := dig_yes l i h; have := dig_lo l (i + 1); symm; apply decide_eq_true; omega
theorem at_lt {l : List UInt8} {i : Nat} (h : isD (at' l i) = true) : i < l.length := by
 by_cases hi : i < l.length
 ·exact hi
 ·rw [at_zero hi] at h; exact absurd h (by decide)
end Fx
end Go.Proofs.Ytaofkaehhikfaaa
namespace Go.Proofs.Ytaofkaehhikfaaa
namespace Fx
def dv (c : UInt8) : Nat := c.toNat - 48
def valFrom (acc : Nat) (l : List UInt8) : Nat := l.foldl (fun a c => a * 10 + dv c) acc
theorem dv_le {c : UInt8} (h : isD c = true) : dv c <= 9 := by
 unfold isD at h; have := of_decide_eq_true h; unfold dv; omega
theorem digitVal_of {c : UInt8} (h : isD c = true) : Lib.digitVal c = some (dv c) := by
 unfold isD at h; have := of_decide_eq_true h; unfold Lib.digitVal dv; rw [if_pos (by omega)]
theorem decFrom_val (l : List UInt8) : ∀ acc, (∀ c ∈ l, isD c = true) -> Lib.decFrom acc l = some (valFrom acc l) := by
 induction l with
 | nil => intro acc _; rfl
 | cons a t ih =>
   intro acc h
   rw [Lib.decFrom, digitVal_of (h a (by simp))]
   exact ih _ (fun c hc => h c (by simp [hc]))
theorem atoi_val {l : List UInt8} (hn : l ≠ []) (h : ∀ c ∈ l, isD c = true) : Lib.atoi l = some ((valFrom 0 l : Nat) : Int) := by
 match l, hn with
 | a :: t, _ =>
   have ha : isD a = true := h a (by simp)
   have h45 : (a == 45) = false := by rw [beq_eq_false_iff_ne]; rintro rfl; exact absurd ha (by decide)
   have h43 : (a == 43) = false := by rw [beq_eq_false_iff_ne]; rintro rfl; exact absurd ha (by decide)
   unfold Lib.atoi
   simp only [h45, h43, Bool.false_eq_true, if_false]
   unfold Lib.decNat
   rw [decFrom_val _ _ h]
   rfl
theorem valFrom_lt (l : List UInt8) : ∀ acc, (∀ c ∈ l, isD c = true) -> valFrom acc l < (acc + 1) * 10 ^ l.length := by
 induction l with
 | nil => intro acc _; unfold valFrom; simp
 | cons a t ih =>
   intro acc h
   have h1 := ih (acc * 10 + dv a) (fun c hc => h c (by simp [hc]))
   have h2 := dv_le (h a (by simp))
   have h3 : (acc * 10 + dv a + 1) * 10 ^ t.length <= ((acc + 1) * 10) * 10 ^ t.length := Nat.mul_le_mul_right _ (by omega)
   have h4 : ((acc + 1) * 10) * 10 ^ t.length = (acc + 1) * 10 ^ (t.length + 1) := by rw [Nat.pow_succ, Nat.mul_assoc, Nat.mul_comm 10]
   have h5 : valFrom acc (a :: t) = valFrom (acc * 10 + dv a) t := rfl
   rw [h5, List.length_cons, <- h4]
   omega
def seg (l : List UInt8) (a b : Nat) : List UInt8 := (l.drop a).take (b - a)
theorem seg_join (l : List UInt8) {a b c : Nat} (h1 : a <= b) (h2 : b <= c) : seg l a c = seg l a b ++ seg l b c := by
 unfold seg
 rw [show c - a = (b - a) + (c - b) by omega, List.take_add, List.drop_drop, show a + (b - a) = b by omega]
theorem seg_all (l : List UInt8) : seg l 0 l.length = l := by unfold seg; simp
theorem seg_nil (l : List UInt8) (a : Nat) : seg l a a = [] := by unfold seg; simp
theorem seg_one {l : List UInt8} {a : Nat} (h : a < l.length) : seg l a (a + 1) = [at' l a] := by
 unfold seg at'
 rw [show a + 1 - a = 1 by omega, List.drop_eq_getElem_cons h, List.getD_eq_getElem?_getD, List.getElem?_eq_getElem h]; rfl
theorem seg_dig (l : List UInt8) (a : Nat) : seg l a (dig l a) = (l.drop a).takeWhile isD := by
 unfold seg dig
 rw [show a + ((l.drop a).takeWhile isD).length - a = ((l.drop a).takeWhile isD).length by omega]
 exact (List.prefix_iff_eq_take.1 (List.takeWhile_prefix isD)).symm
theorem seg_isD (l : List UInt8) (a : Nat) : ∀ c ∈ seg l a (dig l a), isD c = true := by
 rw [seg_dig]; intro c hc; exact List.all_eq_true.1 List.all_takeWhile c hc
theorem seg_len {l : List UInt8} {a b : Nat} (h : b <= l.length) : (seg l a b).length = b - a := by
 unfold seg; rw [List.length_take, List.length_drop]; omega
theorem seg_get (l : List UInt8) {a b i : Nat} (h : a + i < b) : (seg l a b)[i]? = l[a + i]? := by
 unfold seg; rw [List.getElem?_take_of_lt (by omega), List.getElem?_drop]
structure Sc where
 d : List Nat
 pt : Nat
 bh : Bool
 ex : Nat
 ed : Nat
 en : Bool
 ie : Bool
def step (t : Sc) (c : UInt8) : Sc :=
 if c = 101 ∨ c = 69 then { t with ie := true }
 else if t.ie = true /\ c = 45 then { t with en := true }
 else if c = 46 then { t with bh := true }
 else if isD c = true /\ t.ie = true then { t with ed := t.ed + 1, ex := if t.ex < 999999 then t.ex * 10 + dv c else t.ex }
 else if isD c = true then { t with d := t.d ++ [dv c], pt := if t.bh then t.pt else t.pt + 1 }
 else t
def sc0 : Sc := ⟨[], 0, false, 0, 0, false, false⟩
def scan (l : List UInt8) : Sc := l.foldl step sc0
theorem step_digit {t : Sc} {c : UInt8} (h : isD c = true) (hi : t.ie = false) : step t c = { t with d := t.d ++ [dv c], pt := if t.bh then t.pt else t.pt + 1 } := by
 have h1 : ¬ (c = 101 ∨ c = 69) := by rintro (rfl | rfl) <;> exact absurd h (by decide)
 have h3 : ¬ c = 46 := by rintro rfl; exact absurd h (by decide)
 unfold step
 rw [if_neg h1, if_neg (by simp [hi]), if_neg h3, if_neg (by simp [hi]), if_pos h]
theorem step_exp {t : Sc} {c : UInt8} (h : isD c = true) (hi : t.ie = true) : step t c = { t with ed := t.ed + 1, ex := if t.ex < 999999 then t.ex * 10 + dv c else t.ex } := by
 have h1 : ¬ (c = 101 ∨ c = 69) := by rintro (rfl | rfl) <;> exact absurd h (by decide)
 have h2 : ¬ c = 45 := by rintro rfl; exact absurd h (by decide)
 have h3 : ¬ c = 46 := by rintro rfl; exact absurd h (by decide)
 unfold step
 rw [if_neg h1, if_neg (by simp [h2]), if_neg h3, if_pos ⟨h, hi⟩]
theorem fold_digits (l : List UInt8) : ∀ t : Sc, (∀ c ∈ l, isD c = true) -> t.ie = false -> l.foldl step t = { t with d := t.d ++ l.map dv, pt := if t.bh then t.pt else t.pt + l.length } := by
 induction l with
 | nil => intro t _ _; simp
 | cons a r ih =>
   intro t h hi
   rw [List.foldl_cons, step_digit (h a (by simp)) hi]
   refine (ih _ (fun c hc => h c (by simp [hc])) ?_).trans ?_
   ·exact hi
   ·cases hb : t.bh <;> simp
    omega
def expFold (e : Nat) (l : List UInt8) : Nat := l.foldl (fun e c => if e < 999999 then e * 10 + dv c else e) e
theorem fold_exp (l : List UInt8) : ∀ t : Sc, (∀ c ∈ l, isD c = true) -> t.ie = true -> l.foldl step t = { t with ed := t.ed + l.length, ex := expFold t.ex l } := by
 induction l with
 | nil => intro t _ _; simp [expFold]
 | cons a r ih =>
   intro t h hi
   rw [List.foldl_cons, step_exp (h a (by simp)) hi]
   refine (ih _ (fun c hc => h c (by simp [hc])) ?_).trans ?_
   ·exact hi
   ·simp [expFold]; omega
theorem expFold_val (l : List UInt8) : ∀ e, (∀ c ∈ l, isD c = true) -> (e + 1) * 10 ^ l.length <= 1000000 -> expFold e l = valFrom e l := by
 induction l with
 | nil => intro e _ _; rfl
 | cons a r ih =>
   intro e h hb
   have h2 := dv_le (h a (by simp))
   have hp : 1 <= 10 ^ r.length := Nat.one_le_pow _ _ (by decide)
   have hb' : (e + 1) * 10 * 10 ^ r.length <= 1000000 := by rw [Nat.mul_assoc, Nat.mul_comm 10, <- Nat.pow_succ]; exact hb
   have he : (e + 1) * 10 <= 1000000 := Nat.le_trans (Nat.le_mul_of_pos_right _ hp) hb'
   have e1 : expFold e (a :: r) = expFold (e * 10 + dv a) r := by
    show expFold (if e < 999999 then e * 10 + dv a else e) r = _
    rw [if_pos (by omega)]
   rw [e1, ih _ (fun c hc => h c (by simp [hc])) (Nat.le_trans (Nat.mul_le_mul_right _ (by omega)) hb')]
   rfl
def dgt (l : List UInt8) (place : Nat) : Nat :=
 if spS l + place < spW l then dv (at' l (spS l + place))
 else if spS l + place + 1 < spD l then dv (at' l (spS l + place + 1)) else 0
def digs (l : List UInt8) : List Nat := (seg l (spS l) (spW l)).map dv ++ (seg l (spW l + 1) (spD l)).map dv
def place0 (l : List UInt8) : Nat := spW l - spS l
def fromE (l : List UInt8) : Nat := sgn l (spD l + 1)
def expMag (l : List UInt8) : Nat := if spE l - fromE l <= 6 then valFrom 0 (seg l (fromE l) (spE l)) else 999999
def expo (l : List UInt8) : Int := if spE l = spD l then 0 else if at' l (spD l + 1) = 45 then -(expMag l : Int) else expMag l
theorem at_eq {l : List UInt8} {i : Nat} (h : i < l.length) : l[i]? = some (at' l i) := by
 unfold at'; rw [List.getD_eq_getElem?_getD, List.getElem?_eq_getElem h]; rfl
theorem digs_get (l : List UInt8) (i : Nat) : (digs l).getD i 0 = dgt l i := by
 have b1 := spS_hi l
 have b2 := spW_hi l
 have b3 := spW_lo l
 have b4 := spD_hi l
 have b5 := spD_lo l
 unfold digs dgt
 rw [List.getD_eq_getElem?_getD, List.getElem?_append, List.length_map, seg_len b2]
 by_cases h : spS l + i < spW l
 ·rw [if_pos (by omega), if_pos h, List.getElem?_map, seg_get l h, at_eq (by omega)]; rfl
 ·rw [if_neg (by omega), if_neg h, List.getElem?_map]
  by_cases h2 : spS l + i + 1 < spD l
  ·rw [if_pos h2, seg_get l (by omega), show spW l + 1 + (i - (spW l - spS l)) = spS l + i + 1 by omega, at_eq (by omega)]; rfl
  ·rw [if_neg h2, List.getElem?_eq_none (by rw [seg_len b4]; omega)]; rfl
theorem digs_len (l : List UInt8) : (digs l).length = (spW l - spS l) + (spD l - (spW l + 1)) := by
 unfold digs
 rw [List.length_append, List.length_map, List.length_map, seg_len (spW_hi l), seg_len (spD_hi l)]
theorem sign_fold (l : List UInt8) : (seg l 0 (spS l)).foldl step sc0 = sc0 := by
 have h := spS_hi l
 have hd : spS l = if (at' l 0 = 43 ∨ at' l 0 = 45) then 0 + 1 else 0 := rfl
 by_cases hc : at' l 0 = 43 ∨ at' l 0 = 45
 ·rw [if_pos hc] at hd
  rw [hd, seg_one (by omega)]
  rcases hc with hc | hc <;> rw [hc] <;> rfl
 ·rw [if_neg hc] at hd
  rw [hd, seg_nil]; rfl
theorem spD_case (l : List UInt8) : spD l = spW l ∨ (at' l (spW l) = 46 /\ spW l + 1 < spD l /\ spD l = dig l (spW l + 1)) := by
 unfold spD spDof
 split
 ·rename_i h; exact Or.inr ⟨h.1, h.2, rfl⟩
 ·exact Or.inl rfl
theorem spE_case (l : List UInt8) : spE l = spD l ∨ ((at' l (spD l) = 101 ∨ at' l (spD l) = 69) /\ fromE l < spE l /\ spE l = dig l (fromE l)) := by
 unfold spE spEof fromE
 split
 ·rename_i h; exact Or.inr ⟨h.1, h.2, rfl⟩
 ·exact Or.inl rfl
def sc1 (l : List UInt8) : Sc := ⟨digs l, place0 l, decide (spW l < spD l), 0, 0, false, false⟩
theorem scan_digits (l : List UInt8) : (seg l 0 (spD l)).foldl step sc0 = sc1 l := by
 have b1 := spS_hi l
 have b2 := spW_hi l
 have b3 := spW_lo l
 have b4 := spD_hi l
 have b5 := spD_lo l
 rw [seg_join l (Nat.zero_le (spS l)) (by omega), seg_join l b3 b5, List.foldl_append, List.foldl_append, sign_fold]
 rw [fold_digits _ sc0 (by have := seg_isD l (spS l); exact this) rfl]
 rcases spD_case l with h | ⟨h1, h2, h3⟩
 ·rw [h, seg_nil]
  unfold sc1 digs place0 sc0
  rw [h, show seg l (spW l + 1) (spW l) = [] by unfold seg; simp, seg_len b2]
  simp
 ·rw [seg_join l (show spW l <= spW l + 1 by omega) (by omega), seg_one (by omega), h1, List.foldl_append]
  have hD : ∀ c ∈ seg l (spW l + 1) (spD l), isD c = true := by rw [h3]; exact seg_isD l _
  have e46 : ∀ t : Sc, [(46 : UInt8)].foldl step t = { t with bh := true } := by
   intro t
   show step t 46 = _
   unfold step
   rw [if_neg (by decide), if_neg (by rintro ⟨_, h⟩; exact absurd h (by decide)), if_pos rfl]
  rw [e46, fold_digits _ _ hD rfl]
  unfold sc1 digs place0 sc0
  rw [seg_len b2]
  simp
  omega
def exRef (l : List UInt8) : Nat := if spE l = spD l then 0 else expFold 0 (seg l (fromE l) (spE l))
def edRef (l : List UInt8) : Nat := if spE l = spD l then 0 else spE l - fromE l
def sc2 (l : List UInt8) : Sc := ⟨digs l, place0 l, decide (spW l < spD l), exRef l, edRef l, decide (spE l ≠ spD l /\ at' l (spD l + 1) = 45), decide (spE l ≠ spD l)⟩
theorem scan_all (l : List UInt8) : (seg l 0 (spE l)).foldl step sc0 = sc2 l := by
 have b4 := spD_hi l
 have b6 := spE_hi l
 have b7 := spE_lo l
 rcases spE_case l with h | ⟨h1, h2, h3⟩
 ·rw [h, scan_digits]
  unfold sc1 sc2 exRef edRef
  simp [h]
 ·have g1 : spD l + 1 <= fromE l := sgn_lo l _
  have hlt : spD l < l.length := by omega
  have hne : ¬ spE l = spD l := by omega
  rw [seg_join l (Nat.zero_le (spD l)) b7, seg_join l (show spD l <= spD l + 1 by omega) (by omega), seg_join l g1 (by omega), seg_one hlt]
  rw [List.foldl_append, List.foldl_append, List.foldl_append, scan_digits]
  have eE : [at' l (spD l)].foldl step (sc1 l) = { sc1 l with ie := true } := by
   show step _ _ = _
   unfold step
   rw [if_pos h1]
  rw [eE]
  have hD : ∀ c ∈ seg l (fromE l) (spE l), isD c = true := by rw [h3]; exact seg_isD l _
  have hf : fromE l = if (at' l (spD l + 1) = 43 ∨ at' l (spD l + 1) = 45) then spD l + 1 + 1 else spD l + 1 := rfl
  have eS : (seg l (spD l + 1) (fromE l)).foldl step { sc1 l with ie := true } = { sc1 l with ie := true, en := decide (at' l (spD l + 1) = 45) } := by
   by_cases hc : at' l (spD l + 1) = 43 ∨ at' l (spD l + 1) = 45
   ·rw [if_pos hc] at hf
    rw [hf, seg_one (by omega)]
    show step _ _ = _
    rcases hc with hc | hc
    ·rw [hc]
     unfold step
     rw [if_neg (by decide), if_neg (by rintro ⟨_, h⟩; exact absurd h (by decide)), if_neg (by decide), if_neg (by rintro ⟨h, _⟩; exact absurd h (by decide)), if_neg (by decide)]
     rfl
    ·rw [hc]
     unfold step
     rw [if_neg (by decide), if_pos ⟨rfl, rfl⟩]
     rfl
   ·rw [if_neg hc] at hf
    rw [hf, seg_nil]
    have : decide (at' l (spD l + 1) = 45) = false := decide_eq_false (fun h => hc (Or.inr h))
    rw [this]; rfl
  rw [eS, fold_exp _ _ hD rfl]
  unfold sc1 sc2 exRef edRef
  rw [if_neg hne, if_neg hne, seg_len b6]
  simp [hne]
theorem exp_ref (l : List UInt8) : (if (999999 < exRef l ∨ 6 < edRef l) then (999999 : Int) else exRef l) = if spE l = spD l then 0 else (expMag l : Int) := by
 rcases spE_case l with h | ⟨h1, h2, h3⟩
 ·unfold exRef edRef; rw [if_pos h, if_pos h, if_pos h]; rfl
 ·have hne : ¬ spE l = spD l := by have : spD l + 1 <= fromE l := sgn_lo l _; omega
  have hD : ∀ c ∈ seg l (fromE l) (spE l), isD c = true := by rw [h3]; exact seg_isD l _
  unfold exRef edRef expMag
  rw [if_neg hne, if_neg hne, if_neg hne]
  by_cases h6 : spE l - fromE l <= 6
  ·have hl := seg_len (a := fromE l) (spE_hi l)
   have hp : 10 ^ (spE l - fromE l) <= 10 ^ 6 := Nat.pow_le_pow_right (by decide) h6
   have hv := valFrom_lt _ 0 hD
   rw [hl] at hv
   rw [expFold_val _ 0 hD (by rw [hl]; omega), if_pos h6, if_neg (by omega)]
  ·rw [if_pos (Or.inr (by omega)), if_neg h6]; rfl
theorem expMag_bd (l : List UInt8) : expMag l <= 999999 := by
 unfold expMag
 split
 ·rename_i h6
  rcases spE_case l with h | ⟨h1, h2, h3⟩
  ·have : spD l + 1 <= fromE l := sgn_lo l _
   have e : seg l (fromE l) (spE l) = [] := by unfold seg; rw [show spE l - fromE l = 0 by omega]; rfl
   rw [e]; decide
  ·have hD : ∀ c ∈ seg l (fromE l) (spE l), isD c = true := by rw [h3]; exact seg_isD l _
   have hv := valFrom_lt _ 0 hD
   rw [seg_len (spE_hi l)] at hv
   have hp : 10 ^ (spE l - fromE l) <= 10 ^ 6 := Nat.pow_le_pow_right (by decide) h6
   omega
 ·omega
theorem expo_bd (l : List UInt8) : -999999 <= expo l /\ expo l <= 999999 := by
 have := expMag_bd l
 unfold expo; split
 ·omega
 ·split <;> omega
def V (f : Nat -> Nat) : Nat -> Nat
 | 0 => 0
 | n + 1 => V f n * 10 + f n
theorem V_mono (f : Nat -> Nat) (a : Nat) : ∀ n, V f a <= V f (a + n) := by
 intro n
 induction n with
 | zero => exact Nat.le_refl _
 | succ n ih => show _ <= V f (a + n) * 10 + _; omega
theorem V_zero (f : Nat -> Nat) (a : Nat) (h0 : V f a = 0) (hf : ∀ i, a <= i -> f i = 0) : ∀ n, V f (a + n) = 0 := by
 intro n
 induction n with
 | zero => exact h0
 | succ n ih => show V f (a + n) * 10 + f (a + n) = 0; rw [ih, hf _ (by omega)]
def mag (l : List UInt8) : Int := min (V (dgt l) ((place0 l : Int) + expo l + 3).toNat : Nat) 1099511627776
def num (l : List UInt8) : Int := if at' l 0 = 45 then - mag l else mag l
def isDec (l : List UInt8) : Bool := decide (len l ≠ 0 /\ len l = l.length)
theorem isDec_of {l : List UInt8} (h : isDec l = true) : spD l ≠ spS l /\ spE l = l.length := by
 have h1 := of_decide_eq_true h
 unfold len at h1
 by_cases hn : spD l = spS l
 ·rw [if_pos hn] at h1; exact absurd rfl h1.1
 ·rw [if_neg hn] at h1; exact ⟨hn, h1.2⟩
theorem scan_dec {l : List UInt8} (h : isDec l = true) : scan l = sc2 l := by
 have h1 := scan_all l
 rw [(isDec_of h).2, seg_all] at h1
 exact h1
theorem digs_pos {l : List UInt8} (h : isDec l = true) : 0 < (digs l).length := by
 have h1 := (isDec_of h).1
 have b5 := spD_lo l
 have b3 := spW_lo l
 rw [digs_len]
 rcases spD_case l with h2 | ⟨_, h2, _⟩ <;> omega
theorem expo_two (l : List UInt8) : expo l = if decide (spE l ≠ spD l /\ at' l (spD l + 1) = 45) = true then - (if spE l = spD l then 0 else (expMag l : Int)) else (if spE l = spD l then 0 else (expMag l : Int)) := by
 unfold expo
 by_cases h1 : spE l = spD l
 ·rw [if_pos h1]; simp [h1]
 ·rw [if_neg h1]
  by_cases h2 : at' l (spD l + 1) = 45
  ·rw [if_pos h2, if_pos (decide_eq_true ⟨h1, h2⟩), if_neg h1]
  ·rw [if_neg h2, if_neg (by simp [h2]), if_neg h1]
theorem dig_in {l : List UInt8} {a j : Nat} (h1 : a <= j) (h2 : j < dig l a) : isD (at' l j) = true := by
 have hl : j < l.length := by
  by_cases ha : a <= l.length
  ·have := dig_hi l a ha; omega
  ·have hz : dig l a = a := dig_no l a (by rw [at_zero (by omega)]; rfl)
   omega
 refine seg_isD l a _ ?_
 have h3 : (seg l a (dig l a))[j - a]? = some (at' l j) := by
  rw [seg_get l (by omega), show a + (j - a) = j by omega, at_eq hl]
 exact List.mem_of_getElem? h3
theorem dgt_le (l : List UInt8) (i : Nat) : dgt l i <= 9 := by
 unfold dgt
 split
 ·rename_i hi
  exact dv_le (dig_in (a := spS l) (by omega) hi)
 ·split
  ·rename_i h1 h2
   rcases spD_case l with h | ⟨_, _, h⟩
   ·omega
   ·rw [h] at h2
    exact dv_le (dig_in (a := spW l + 1) (by omega) h2)
  ·omega
end Fx
end Go.Proofs.Ytaofkaehhikfaaa
namespace Go.Proofs.Ytaofkaehhikfaaa
open Go.RowKit
namespace Tk
open Ru
def numL (l : List Int) (k : Nat) : List UInt8 := (strOfNums (ascL l k)).data.toList
def nlen (l : List Int) (k : Nat) : Nat := Fx.len (numL l k)
def pv (t : List UInt8) : Int := if Fx.isDec t = true then Fx.num t else 0
def nval (l : List Int) (k : Nat) : Int := pv ((numL l k).take (nlen l k))
def numB (c : Int) : Bool := decide (c = 43 ∨ c = 45 ∨ c = 46 ∨ (48 <= c /\ c <= 57))
def symK (c : Int) : Int := if c = 40 ∨ c = 91 ∨ c = 123 then 12 else if c = 41 ∨ c = 93 ∨ c = 125 then 13 else 11
def rest (l : List Int) (k : Nat) : Int × ByteArray × Int × Nat :=
 if g l k = 64 /\ begs l (k + 1) = true then (4, str (name l (k + 1)).1, 0, (name l (k + 1)).2)
 else if begs l k = true then (if at' l (name l k).2 = 40 then (3, str (name l k).1, 0, (name l k).2 + 1) else (2, str (name l k).1, 0, (name l k).2))
 else if g l k = 58 then (14, ⟨#[]⟩, 0, k + 1)
 else if g l k = 59 then (15, ⟨#[]⟩, 0, k + 1)
 else if g l k = 44 then (16, ⟨#[]⟩, 0, k + 1)
 else (symK (g l k), str [g l k], 0, k + 1)
def nxt (l : List Int) (k : Nat) : Int × ByteArray × Int × Nat :=
 if g l k = 34 ∨ g l k = 39 then ((qq l (g l k) (k + 1)).1, str (qq l (g l k) (k + 1)).2.1, 0, (qq l (g l k) (k + 1)).2.2)
 else if g l k = 35 /\ (witB (at' l (k + 1)) = true ∨ esc l (k + 1) = true) then (5, str (name l (k + 1)).1, 0, (name l (k + 1)).2)
 else if numB (g l k) = true /\ 0 < nlen l k then
  (if begs l (k + nlen l k) = true then (10, str (name l (k + nlen l k)).1, nval l k, (name l (k + nlen l k)).2)
   else if at' l (k + nlen l k) = 37 then (9, ⟨#[]⟩, nval l k, k + nlen l k + 1) else (8, ⟨#[]⟩, nval l k, k + nlen l k))
 else rest l k
theorem numL_len (l : List Int) (k : Nat) : (numL l k).length <= l.length - k := by
 have h := ascL_len l k
 have h2 : (numL l k).length = (ascL l k).length := by
  unfold numL
  rw [<- Lib.size_eq, strOfNums_size]
 omega
theorem nlen_le (l : List Int) (k : Nat) (h : k <= l.length) : k + nlen l k <= l.length := by
 have h1 := Fx.len_hi (numL l k)
 have h2 := numL_len l k
 unfold nlen
 omega
theorem name_le (l : List Int) : ∀ (m k : Nat), l.length - k <= m -> k <= l.length -> k <= (name l k).2 /\ (name l k).2 <= l.length
 | m, k, hm, hk => by
   cases hI : inN l k
   ·rw [name_no hI]; exact ⟨Nat.le_refl _, hk⟩
   ·rw [name_yes hI]
    have ho := oneN_le hI
    have hlt := inN_lt hI
    match m, hm with
    | 0, hm => omega
    | m + 1, hm =>
      have ih := name_le l m (oneN l k).2 (by omega) ho.2
      simp only
      omega
theorem begs_num {l : List Int} {k : Nat} (hk : k < l.length) (h : numB (g l k) = true) (h2 : begs l k = true) : g l k = 45 := by
 unfold begs may esc at h2
 rw [at_in hk] at h2
 unfold numB at h
 unfold begB at h2
 have h3 := of_decide_eq_true h
 simp only [Bool.or_eq_true, Bool.and_eq_true, decide_eq_true_eq] at h2
 omega
theorem begs_not {l : List Int} {k : Nat} (hk : k < l.length) (h : g l k = 35 ∨ g l k = 58 ∨ g l k = 59 ∨ g l k = 44 ∨ g l k = 40 ∨ g l k = 91 ∨ g l k = 123 ∨ g l k = 41 ∨ g l k = 93 ∨ g l k = 125) : begs l k = false := by
 rw [Bool.eq_false_iff]
 intro h2
 unfold begs may esc at h2
 rw [at_in hk] at h2
 unfold begB at h2
 simp only [Bool.or_eq_true, Bool.and_eq_true, decide_eq_true_eq] at h2
 omega
theorem numB_no {c : Int} (h : numB c = false) : c ≠ 43 /\ c ≠ 45 /\ c ≠ 46 /\ (c < 48 ∨ 57 < c) := by
 have := of_decide_eq_false h
 omega
def Past (l : List Int) (k : Nat) : Prop := g l k ≠ 34 /\ g l k ≠ 39 /\ (g l k = 35 -> witB (at' l (k + 1)) = false /\ esc l (k + 1) = false) /\ (numB (g l k) = true -> nlen l k = 0)
theorem nxt_past {l : List Int} {k : Nat} (h : Past l k) : nxt l k = rest l k := by
 obtain ⟨h1, h2, h3, h4⟩ := h
 unfold nxt
 rw [if_neg (by omega), if_neg (fun h => by have := h3 h.1; rw [this.1, this.2] at h; simp at h), if_neg (fun h => by have := h4 h.1; omega)]
end Tk
end Go.Proofs.Ytaofkaehhikfaaa
namespace Go.Proofs.Ytaofkaehhikfaaa
namespace Tk
open Ru
theorem begs_in {l : List Int} {k : Nat} (h : begs l k = true) : inN l k = true := by
 unfold begs may at h
 unfold inN witB
 simp only [Bool.or_eq_true, Bool.and_eq_true, decide_eq_true_eq] at h ⊢
 rcases h with (h | h) | h
 ·exact .inr (.inl h)
 ·exact .inl h
 ·exact .inr (.inr (.inr h.1))
theorem name_gt {l : List Int} {k : Nat} (h : inN l k = true) : k < (name l k).2 /\ (name l k).2 <= l.length := by
 have ho := oneN_le h
 rw [name_yes h]
 have := name_le l _ (oneN l k).2 (Nat.le_refl _) ho.2
 simp only
 omega
theorem qq_le (l : List Int) (e : Int) : ∀ (m k : Nat), l.length + 1 - k <= m -> k <= l.length + 1 -> min k l.length <= (qq l e k).2.2 /\ (qq l e k).2.2 <= l.length
 | m, k, hm, hk => by
   by_cases h : k < l.length /\ g l k ≠ e
   ·rw [qq_step h]
    match m, hm with
    | 0, hm => omega
    | m + 1, hm =>
      split
      ·simp only; omega
      ·split
       ·rename_i he
        have hl := meant_le (esc_lt he).1
        have ih := qq_le l e m (meant l k).2 (by omega) (by omega)
        unfold push
        simp only
        omega
       ·split
        ·have ih := qq_le l e m (k + 2) (by omega) (by omega)
         omega
        ·have ih := qq_le l e m (k + 1) (by omega) (by omega)
         unfold push
         simp only
         omega
   ·rw [qq_end h]
    simp only
    omega
theorem rest_le {l : List Int} {k : Nat} (hk : k < l.length) : k < (rest l k).2.2.2 /\ (rest l k).2.2.2 <= l.length := by
 unfold rest
 split
 ·rename_i h
  have := name_gt (begs_in h.2)
  simp only; omega
 ·split
  ·rename_i h
   have := name_gt (begs_in h)
   split
   ·rename_i h40
    have := at_lt (l := l) (k := (name l k).2) (fun e => by rw [e] at h40; exact absurd h40 (by decide))
    simp only; omega
   ·simp only; omega
  ·split
   ·simp only; omega
   ·split
    ·simp only; omega
    ·split
     ·simp only; omega
     ·simp only; omega
theorem nxt_le {l : List Int} {k : Nat} (hk : k < l.length) : k < (nxt l k).2.2.2 /\ (nxt l k).2.2.2 <= l.length := by
 unfold nxt
 split
 ·have := qq_le l (g l k) _ (k + 1) (Nat.le_refl _) (by omega)
  simp only; omega
 ·split
  ·rename_i h
   have hin : inN l (k + 1) = true := by
    unfold inN
    rcases h.2 with h | h
    ·rw [h, Bool.or_true]
    ·rw [h, Bool.true_or]
   have := name_gt hin
   simp only; omega
  ·split
   ·rename_i h
    have hn := nlen_le l k (by omega)
    split
    ·rename_i h2
     have := name_gt (begs_in h2)
     simp only; omega
    ·split
     ·rename_i h37
      have := at_lt (l := l) (k := k + nlen l k) (fun e => by rw [e] at h37; exact absurd h37 (by decide))
      simp only; omega
     ·simp only; omega
   ·exact rest_le hk
def tokOf (r : Int × ByteArray × Int × Nat) : Tok := (r.1, r.2.1, r.2.2.1)
def spTok (b : Bool) : List Tok := if b = true then [(1, ⟨#[]⟩, 0)] else []
def scan (l : List Int) (k : Nat) : List Tok :=
 if _h : k < l.length then
  spTok (sp l k false).2 ++ (if _h2 : (sp l k false).1 < l.length then tokOf (nxt l (sp l k false).1) :: scan l (nxt l (sp l k false).1).2.2.2 else [])
 else []
termination_by l.length - k
decreasing_by
 have h1 := sp_le l k false (by omega)
 have h3 := nxt_le (by assumption)
 omega
theorem scan_on {l : List Int} {k : Nat} (h : k < l.length) (h2 : (sp l k false).1 < l.length) :
 scan l k = (spTok (sp l k false).2 ++ [tokOf (nxt l (sp l k false).1)]) ++ scan l (nxt l (sp l k false).1).2.2.2 := by
 rw [scan, dif_pos h, dif_pos h2, List.append_assoc]; rfl
theorem scan_last {l : List Int} {k : Nat} (h : k < l.length) (h2 : ¬ (sp l k false).1 < l.length) : scan l k = spTok (sp l k false).2 := by
 rw [scan, dif_pos h, dif_neg h2, List.append_nil]
theorem scan_end {l : List Int} {k : Nat} (h : ¬ k < l.length) : scan l k = [] := by
 rw [scan, dif_neg h]
theorem spTok_len (b : Bool) : (spTok b).length <= 1 := by
 unfold spTok; split <;> simp
theorem scan_len (l : List Int) : ∀ (m k : Nat), l.length - k <= m -> (scan l k).length <= 2 * (l.length - k)
 | m, k, hm => by
   by_cases h : k < l.length
   ·have h1 := sp_le l k false (by omega)
    have h5 := spTok_len (sp l k false).2
    by_cases h2 : (sp l k false).1 < l.length
    ·have h3 := nxt_le (by assumption)
     rw [scan_on h h2]
     match m, hm with
     | 0, hm => omega
     | m + 1, hm =>
       have ih := scan_len l m (nxt l (sp l k false).1).2.2.2 (by omega)
       simp only [List.length_append, List.length_cons, List.length_nil]
       omega
    ·rw [scan_last h h2]; omega
   ·rw [scan_end h]; simp
end Tk
end Go.Proofs.Ytaofkaehhikfaaa
