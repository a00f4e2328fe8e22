/-
  Plain words of values: string steps; tables. No run of the program in this text.
-/
import Derived.Test.YtaofkaehhikfaaaGab
import Derived.Test.YtaofkaehhikfaaaGaa
import Derived.Maps.AppendAt
import Derived.OwnWalk
import Derived.Deep.OwnRows
import Derived.Laws.MakeOwn
import Derived.Deep.QuietTactic
import Derived.BigQuiet
import Derived.Lib.Hide
import Derived.Deep.DeepCutAuto
import Derived.Deep.Cut
import Derived.Deep.CutRange
import Derived.Deep.RegionHeld3
import Derived.Deep.RegionWith
import Derived.ScopeJumps
import Derived.LoopTactic
import Derived.IntWalk
import Derived.WalkSpells
import Derived.Lib.SliceRun
import Derived.Laws.IdiomCopy
set_option maxHeartbeats 16000000
set_option maxRecDepth 100000
namespace Go.Proofs.Ytaofkaehhikfaaa
open Go.RowKit
namespace Vl
open Tk Ns
def spc {α : Type} (q : α -> Bool) : List α -> List (List α)
 | [] => [[]]
 | a :: r => if q a = true then [] :: spc q r else match spc q r with
   | x :: xs => (a :: x) :: xs
   | [] => [[a]]
section
variable {α β : Type}
theorem spc_ne (q : α -> Bool) (l : List α) : spc q l ≠ [] := by
 cases l with
 | nil => rw [spc]; simp
 | cons a r =>
   rw [spc]
   split
   ·simp
   ·split <;> simp
theorem spc_on {q : α -> Bool} {a : α} {r : List α} (h : ¬ q a = true) : ∃ x xs, spc q r = x :: xs /\ spc q (a :: r) = (a :: x) :: xs := by
 cases hs : spc q r with
 | nil => exact absurd hs (spc_ne q r)
 | cons x xs => exact ⟨x, xs, rfl, by rw [spc, if_neg h, hs]⟩
theorem spc_yes {q : α -> Bool} {a : α} {r : List α} (h : q a = true) : spc q (a :: r) = [] :: spc q r := by rw [spc, if_pos h]
theorem spc_map (f : α -> β) {q : α -> Bool} {q' : β -> Bool} (h : ∀ a, q' (f a) = q a) : ∀ l : List α, spc q' (l.map f) = (spc q l).map (List.map f)
 | [] => rfl
 | a :: r => by
   have ih := spc_map f h r
   by_cases ha : q a = true
   ·rw [List.map_cons, spc_yes (by rw [h]; exact ha), spc_yes ha, ih]; rfl
   ·obtain ⟨x, xs, h1, h2⟩ := spc_on (r := r) ha
    obtain ⟨y, ys, h3, h4⟩ := spc_on (q := q') (a := f a) (r := r.map f) (by rw [h]; exact ha)
    rw [ih, h1] at h3
    simp only [List.map_cons, List.cons.injEq] at h3
    rw [List.map_cons, h4, h2, <- h3.1, <- h3.2]; rfl
theorem spc_mem {q : α -> Bool} : ∀ {l x : List α}, x ∈ spc q l -> ∀ a ∈ x, a ∈ l
 | [], x, h, a, ha => by
   rw [spc, List.mem_singleton] at h
   subst h
   exact ha
 | b :: r, x, h, a, ha => by
   by_cases hb : q b = true
   ·rw [spc_yes hb] at h
    rcases List.mem_cons.1 h with rfl | h
    ·cases ha
    ·exact List.mem_cons_of_mem _ (spc_mem h a ha)
   ·obtain ⟨y, ys, h1, h2⟩ := spc_on (r := r) hb
    rw [h2] at h
    rcases List.mem_cons.1 h with rfl | h
    ·rcases List.mem_cons.1 ha with rfl | ha
     ·simp
     ·exact List.mem_cons_of_mem _ (spc_mem (q := q) (l := r) (x := y) (by rw [h1]; simp) a ha)
    ·exact List.mem_cons_of_mem _ (spc_mem (q := q) (l := r) (x := x) (by rw [h1]; exact List.mem_cons_of_mem _ h) a ha)
theorem spc_cover {q : α -> Bool} : ∀ {l : List α} {a : α}, a ∈ l -> q a = false -> ∃ x ∈ spc q l, a ∈ x
 | [], a, h, _ => by cases h
 | b :: r, a, h, hq => by
   by_cases hb : q b = true
   ·rcases List.mem_cons.1 h with rfl | h
    ·rw [hb] at hq; cases hq
    ·obtain ⟨x, hx, ha⟩ := spc_cover h hq
     exact ⟨x, by rw [spc_yes hb]; exact List.mem_cons_of_mem _ hx, ha⟩
   ·obtain ⟨y, ys, h1, h2⟩ := spc_on (r := r) hb
    rcases List.mem_cons.1 h with rfl | h
    ·exact ⟨a :: y, by rw [h2]; simp, by simp⟩
    ·obtain ⟨x, hx, ha⟩ := spc_cover h hq
     rw [h1] at hx
     rcases List.mem_cons.1 hx with rfl | hx
     ·exact ⟨b :: x, by rw [h2]; simp, List.mem_cons_of_mem _ ha⟩
     ·exact ⟨x, by rw [h2]; exact List.mem_cons_of_mem _ hx, ha⟩
end
def cmP (p : Prt) : Bool := decide (p.1.1 = 16)
def pst (f : Prt -> Option Itm) (x : List Prt) : Option Stp := match x with
 | p :: r => if nam p.1 = true then (some_ (seqO f r)).map fun l => (p.1.2.1, 0, l) else none
 | [] => none
def strs (f : Prt -> Option Itm) (ps : List Prt) : Option (List Stp) := seqO (pst f) (spc cmP ps)
def stringsS (L : List Tok) : Option (List Stp) := if wrd L = wNone then some [] else (parts L).bind (strs (itm true))
def rstrings (v : List Tok) : Option (List Stp) := (rpt v).bind fun P => if wrd (fs P) = wNone then some [] else strs (fun p => ritm true p (rin p)) P
theorem strs_G {L : List Tok} {ps : List Prt} (h : parts L = some ps) : strs (itm true) (GF ps) = strs (fun p => ritm true p (rin p)) (G ps) := by
 unfold strs
 rw [G_map, spc_map (q := cmP) (fun p : Prt => (p.1, F p.2)) (fun _ => rfl), seqO_map]
 refine seqO_congr fun x hx => ?_
 cases x with
 | nil => rfl
 | cons p r =>
   show (if nam p.1 = true then (some_ (seqO (itm true) (r.map fun p => (p.1, F p.2)))).map (fun l => (p.1.2.1, 0, l)) else none) = _
   have e : seqO (itm true) (r.map fun p => (p.1, F p.2)) = seqO (fun p => ritm true p (rin p)) r := by
    rw [seqO_map]
    refine seqO_congr fun a ha => ?_
    have hm := spc_mem hx a (List.mem_cons_of_mem _ ha)
    obtain ⟨qs, hq⟩ := parts_closed h a (G_mem hm).1
    have hF : parts (F a.2) = some (GF qs) := by rw [parts_F a.2.length a.2 (Nat.le_refl _), hq]; rfl
    show itm true (a.1, F a.2) = _
    rw [ritm_itm true a.1 (F a.2) (GF qs) hF, GF_fst]
    unfold rin
    rw [hq]; rfl
   rw [e]; rfl
theorem strings_same (v : List Tok) : stringsS (rd v) = rstrings v := by
 unfold rstrings rpt rd
 by_cases hd : deep v
 ·rw [if_pos hd, if_pos ((deep_F v).2 hd)]
  unfold stringsS
  rw [wrd_nil, if_neg (by decide), parts_nil]; rfl
 ·rw [if_neg hd, if_neg (fun h => hd ((deep_F v).1 h))]
  have hp := parts_all_F v
  cases h : parts v with
  | none =>
    rw [h] at hp
    unfold stringsS
    rw [wrd_none hp, if_neg (by decide), hp]; rfl
  | some ps =>
    rw [h] at hp
    have hp' : parts (F v) = some (GF ps) := hp
    show _ = if wrd (fs (G ps)) = wNone then some [] else strs (fun p => ritm true p (rin p)) (G ps)
    unfold stringsS
    rw [<- fs_GF, wrd_fs hp', hp', <- strs_G h]; rfl
section
variable {L : List Tok}
def pstAt (L : List Tok) (q : Nat × Nat) : Option Stp := if q.1 < q.2 /\ nam (tk L q.1) = true then (some_ (seqO (itmAt true L) (plc (ends L) q.2 (q.1 + 1)))).map fun l => ((tk L q.1).2.1, 0, l) else none
def pstN (L : List Tok) (x : List Nat) : Option Stp := match x with
 | b :: r => if nam (tk L b) = true then (some_ (seqO (itmAt true L) r)).map fun l => ((tk L b).2.1, 0, l) else none
 | [] => none
theorem sk_plain {b : Nat} (hb : b < L.length) (h : ¬ isO (tk L b)) : sk (ends L) b = b + 1 := by
 have hen := ends_none hb h
 have es := sk_eq (ends L) b
 rw [skp_no (fun c => by have := c.2.2; rw [Int.toNat_natCast, hen] at this; omega)] at es
 omega
theorem pst_at {q : Nat × Nat} (hq : q.2 <= L.length) : pstN L (plc (ends L) q.2 q.1) = pstAt L q := by
 obtain ⟨b, a⟩ := q
 unfold pstAt
 by_cases h : b < a
 ·rw [plc_on h]
  show (if nam (tk L b) = true then _ else none) = _
  by_cases hn : nam (tk L b) = true
  ·have hO : ¬ isO (tk L b) := fun hO => by rw [nam_O hO] at hn; cases hn
   have hq' : a <= L.length := hq
   rw [if_pos hn, if_pos ⟨h, hn⟩, sk_plain (by omega) hO]
  ·rw [if_neg hn, if_neg (fun c => hn c.2)]
 ·rw [plc_end h, if_neg (fun c => h c.1)]; rfl
theorem spl_le (p : Nat -> Bool) {n : Nat} : ∀ (l : List Nat) (b : Nat), (∀ x ∈ l, x < n) -> ∀ q ∈ spl p n l b, q.2 <= n
 | [], b, _, q, hq => by
   rw [spl_nil, List.mem_singleton] at hq
   subst hq
   exact Nat.le_refl _
 | a :: r, b, h, q, hq => by
   by_cases hp : p a = true /\ b <= a
   ·rw [spl_yes hp] at hq
    rcases List.mem_cons.1 hq with rfl | hq
    ·exact Nat.le_of_lt (h a (by simp))
    ·exact spl_le p r (a + 1) (fun x hx => h x (List.mem_cons_of_mem _ hx)) q hq
   ·rw [spl_no hp] at hq
    exact spl_le p r b (fun x hx => h x (List.mem_cons_of_mem _ hx)) q hq
theorem spl_spc : ∀ (m x b : Nat), L.length - x <= m -> x <= L.length -> b <= x -> (∀ z, x <= z -> plc (ends L) z b = plc (ends L) x b ++ plc (ends L) z x) ->
 ∃ h t, spc (isC L) (plc (ends L) L.length x) = h :: t /\ (spl (isC L) L.length (plc (ends L) L.length x) b).map (fun q => plc (ends L) q.2 q.1) = (plc (ends L) x b ++ h) :: t
 | m, x, b, hm, hx, hb, hon => by
   have hel := ends_len L
   by_cases hlt : x < L.length
   ·have hgt := sk_gt (ends L) x
    have hle := sk_le (es := ends L) (a := x) (by omega)
    match m, hm with
    | 0, hm => omega
    | m + 1, hm =>
      rw [plc_on hlt]
      by_cases hc : isC L x = true
      ·have h16 := of_decide_eq_true hc
       have hsk := sk_plain hlt (not_O (by omega) (by omega))
       rw [spl_yes ⟨hc, hb⟩, spc_yes hc, hsk]
       obtain ⟨h, t, h1, h2⟩ := spl_spc m (x + 1) (x + 1) (by omega) (by omega) (Nat.le_refl _) (fun z _ => by rw [plc_end (Nat.lt_irrefl _)]; rfl)
       refine ⟨[], spc (isC L) (plc (ends L) L.length (x + 1)), rfl, ?_⟩
       rw [List.map_cons, h2, h1, plc_end (Nat.lt_irrefl _), List.append_nil]; rfl
      ·rw [spl_no (fun h => hc h.1)]
       have e1 : plc (ends L) (sk (ends L) x) x = [x] := by rw [plc_on hgt, plc_end (Nat.lt_irrefl _)]
       have e2 : plc (ends L) (sk (ends L) x) b = plc (ends L) x b ++ [x] := by rw [hon _ (by omega), e1]
       obtain ⟨h, t, h1, h2⟩ := spl_spc m (sk (ends L) x) b (by omega) (by omega) (by omega) (fun z hz => by
        rw [hon z (by omega), e2, plc_on (show x < z by omega)]; simp)
       obtain ⟨y, ys, h3, h4⟩ := spc_on (r := plc (ends L) L.length (sk (ends L) x)) hc
       rw [h1] at h3
       injection h3 with h3 h5
       subst h3 h5
       refine ⟨x :: h, t, h4, ?_⟩
       rw [h2, e2]; simp
   ·obtain rfl : x = L.length := by omega
    rw [plc_end hlt]
    refine ⟨[], [], rfl, ?_⟩
    rw [spl_nil, List.append_nil]; rfl
theorem pieces_same (L : List Tok) : (spl (isC L) L.length (plc (ends L) L.length 0) 0).map (fun q => plc (ends L) q.2 q.1) = spc (isC L) (plc (ends L) L.length 0) := by
 obtain ⟨h, t, h1, h2⟩ := spl_spc (L := L) L.length 0 0 (by omega) (Nat.zero_le _) (Nat.le_refl _) (fun z _ => by rw [plc_end (es := ends L) (a := 0) (Nat.lt_irrefl _)]; rfl)
 rw [h2, h1, plc_end (Nat.lt_irrefl _)]; rfl
theorem strs_at (L : List Tok) : (parts L).bind (strs (itm true)) = seqO (pstAt L) (spl (isC L) L.length (plc (ends L) L.length 0) 0) := by
 have e2 : seqO (pstAt L) (spl (isC L) L.length (plc (ends L) L.length 0) 0) = seqO (pstN L) (spc (isC L) (plc (ends L) L.length 0)) := by
  rw [<- pieces_same, seqO_map]
  refine seqO_congr fun q hq => (pst_at ?_).symm
  exact spl_le (isC L) _ _ (fun x hx => (plc_mem _ (Nat.le_refl _) hx).2) q hq
 rw [e2, parts_all]
 by_cases h : ∀ x ∈ plc (ends L) L.length 0, Ru.g (ends L) x < L.length
 ·rw [if_pos h]
  show seqO (pst (itm true)) (spc cmP _) = _
  rw [spc_map (q := isC L) (fun x => (tk L x, arg L x)) (fun _ => rfl), seqO_map]
  refine seqO_congr fun x hx => ?_
  cases x with
  | nil => rfl
  | cons b r =>
    show (if nam (tk L b) = true then (some_ (seqO (itm true) (r.map fun x => (tk L x, arg L x)))).map (fun l => ((tk L b).2.1, 0, l)) else none) = _
    have e : seqO (itm true) (r.map fun x => (tk L x, arg L x)) = seqO (itmAt true L) r := by
     rw [seqO_map]
     refine seqO_congr fun a ha => ?_
     have hm := h a (spc_mem hx a (List.mem_cons_of_mem _ ha))
     unfold itmAt
     rw [if_neg (fun hc => by omega)]
    rw [e]; rfl
 ·rw [if_neg h]
  have h' : ∃ x ∈ plc (ends L) L.length 0, ¬ Ru.g (ends L) x < L.length := Decidable.of_not_not fun hn => h fun x hx => Decidable.of_not_not fun hc => hn ⟨x, hx, hc⟩
  obtain ⟨x, hx, hge⟩ := h'
  have hlt := (plc_mem _ (Nat.le_refl _) hx).2
  have hr := ends_range (ts := L) hlt
  have hg : Ru.g (ends L) x = (ends L).getD x 0 := rfl
  have hO : isO (tk L x) /\ Ru.g (ends L) x = L.length := by
   rcases hr with h2 | h2
   ·omega
   ·exact ⟨h2.1, by omega⟩
  obtain ⟨y, hy, hxy⟩ := spc_cover (q := isC L) hx (decide_eq_false (isO_16 hO.1))
  show none = _
  rw [seqO_bad hy]
  cases y with
  | nil => rfl
  | cons b r =>
    show (if nam (tk L b) = true then (some_ (seqO (itmAt true L) r)).map (fun l => ((tk L b).2.1, 0, l)) else none) = none
    rcases List.mem_cons.1 hxy with rfl | hxr
    ·rw [if_neg (by rw [nam_O hO.1]; simp)]
    ·rw [seqO_bad (f := itmAt true L) hxr (by unfold itmAt; rw [if_pos hO])]
     split <;> rfl
end
def ix : List ByteArray -> ByteArray -> Int -> Int
 | [], _, _ => -1
 | a :: r, s, k => if a = s then k else ix r s (k + 1)
def sty (s : ByteArray) : Int := (look styles s).getD (-1)
def styNames : List ByteArray := [
 ⟨#[100, 101, 99, 105, 109, 97, 108]⟩,
 ⟨#[100, 101, 99, 105, 109, 97, 108, 45, 108, 101, 97, 100, 105, 110, 103, 45, 122, 101, 114, 111]⟩,
 ⟨#[108, 111, 119, 101, 114, 45, 114, 111, 109, 97, 110]⟩,
 ⟨#[117, 112, 112, 101, 114, 45, 114, 111, 109, 97, 110]⟩,
 ⟨#[108, 111, 119, 101, 114, 45, 97, 108, 112, 104, 97]⟩,
 ⟨#[117, 112, 112, 101, 114, 45, 97, 108, 112, 104, 97]⟩,
 ⟨#[108, 111, 119, 101, 114, 45, 103, 114, 101, 101, 107]⟩,
 wNone]
abbrev wLowerLatin : ByteArray := ⟨#[108, 111, 119, 101, 114, 45, 108, 97, 116, 105, 110]⟩
abbrev wUpperLatin : ByteArray := ⟨#[117, 112, 112, 101, 114, 45, 108, 97, 116, 105, 110]⟩
theorem look_none {α : Type} {ws : List (ByteArray × α)} {s : ByteArray} (h : ∀ p ∈ ws, p.1 ≠ s) : look ws s = none := by
 induction ws with
 | nil => rfl
 | cons p r ih => rw [look, if_neg (h p (by simp))]; exact ih fun q hq => h q (List.mem_cons_of_mem _ hq)
theorem ix_none {l : List ByteArray} {s : ByteArray} (h : ∀ a ∈ l, a ≠ s) : ∀ k, ix l s k = -1 := by
 induction l with
 | nil => intro k; rfl
 | cons p r ih => intro k; rw [ix, if_neg (h p (by simp))]; exact ih (fun q hq => h q (List.mem_cons_of_mem _ hq)) _
theorem mem_or {α : Type} (ws : List (ByteArray × α)) (s : ByteArray) : (∀ p ∈ ws, p.1 ≠ s) ∨ s ∈ ws.map (·.1) := by
 by_cases h : s ∈ ws.map (·.1)
 ·exact .inr h
 ·exact .inl fun p hp e => h (by rw [<- e]; exact List.mem_map.2 ⟨p, hp, rfl⟩)
theorem names_in {α : Type} {ws : List (ByteArray × α)} {l : List ByteArray} {s : ByteArray} (h : ∀ a ∈ l, ∃ p ∈ ws, p.1 = a) (hs : ∀ a ∈ ws.map (·.1), a ≠ s) : ∀ a ∈ l, a ≠ s := fun a ha => by
 obtain ⟨p, hp, rfl⟩ := h a ha
 exact hs _ (List.mem_map.2 ⟨p, hp, rfl⟩)
theorem sty_same (s : ByteArray) : sty s = if s = wLowerLatin then 4 else if s = wUpperLatin then 5 else ix styNames s 0 := by
 rcases mem_or styles s with h | h
 ·have hs : ∀ a ∈ styles.map (·.1), a ≠ s := fun a ha => by
   obtain ⟨p, hp, rfl⟩ := List.mem_map.1 ha
   exact h p hp
  unfold sty
  rw [look_none h, if_neg (fun e => hs wLowerLatin (List.mem_map.2 ⟨(wLowerLatin, 4), by simp [styles], rfl⟩) e.symm), if_neg (fun e => hs wUpperLatin (List.mem_map.2 ⟨(wUpperLatin, 5), by simp [styles], rfl⟩) e.symm), ix_none (names_in (by decide) hs)]; rfl
 ·have : ∀ s ∈ styles.map (·.1), sty s = if s = wLowerLatin then 4 else if s = wUpperLatin then 5 else ix styNames s 0 := by decide
  exact this s h
def whiNames : List ByteArray := [⟨#[102, 105, 114, 115, 116]⟩, ⟨#[115, 116, 97, 114, 116]⟩, ⟨#[108, 97, 115, 116]⟩, ⟨#[102, 105, 114, 115, 116, 45, 101, 120, 99, 101, 112, 116]⟩]
theorem whi_same (s : ByteArray) : look whichs s = if ix whiNames s 0 + 1 > 0 then some (ix whiNames s 0 + 1) else none := by
 rcases mem_or whichs s with h | h
 ·have hs : ∀ a ∈ whichs.map (·.1), a ≠ s := fun a ha => by
   obtain ⟨p, hp, rfl⟩ := List.mem_map.1 ha
   exact h p hp
  rw [look_none h, ix_none (names_in (by decide) hs), if_neg (by omega)]
 ·have : ∀ s ∈ whichs.map (·.1), look whichs s = if ix whiNames s 0 + 1 > 0 then some (ix whiNames s 0 + 1) else none := by decide
  exact this s h
def brkNames : List ByteArray := breaks.map (·.1)
def brkNums : List Int := [0, 1, 1, 2, 2, 3, 3, 4, 4]
theorem brk_same (s : ByteArray) : look breaks s = if ix brkNames s 0 < 0 then none else some (brkNums.getD (ix brkNames s 0).toNat 0) := by
 rcases mem_or breaks s with h | h
 ·have hs : ∀ a ∈ breaks.map (·.1), a ≠ s := fun a ha => by
   obtain ⟨p, hp, rfl⟩ := List.mem_map.1 ha
   exact h p hp
  rw [look_none h, ix_none (l := brkNames) hs, if_pos (by omega)]
 ·have : ∀ s ∈ breaks.map (·.1), look breaks s = if ix brkNames s 0 < 0 then none else some (brkNums.getD (ix brkNames s 0).toNat 0) := by decide
  exact this s h
def uniNames : List ByteArray := [⟨#[112, 120]⟩, ⟨#[112, 116]⟩, ⟨#[105, 110]⟩, ⟨#[99, 109]⟩, ⟨#[109, 109]⟩, ⟨#[112, 99]⟩]
def uniUp : List Int := [1, 4, 96, 9600, 960, 16]
def uniDown : List Int := [1, 3, 1, 254, 254, 1]
theorem uni_same (s : ByteArray) (n : Int) : (look units s).map (fun q => (n * q.1).tdiv q.2) = if ix uniNames s 0 < 0 then none else some ((n * uniUp.getD (ix uniNames s 0).toNat 0).tdiv (uniDown.getD (ix uniNames s 0).toNat 0)) := by
 rcases mem_or units s with h | h
 ·have hs : ∀ a ∈ units.map (·.1), a ≠ s := fun a ha => by
   obtain ⟨p, hp, rfl⟩ := List.mem_map.1 ha
   exact h p hp
  rw [look_none h, ix_none (names_in (by decide) hs), if_pos (by omega)]; rfl
 ·have hm : s ∈ [(⟨#[112, 120]⟩ : ByteArray), ⟨#[112, 116]⟩, ⟨#[112, 99]⟩, ⟨#[105, 110]⟩, ⟨#[99, 109]⟩, ⟨#[109, 109]⟩] := h
  simp only [List.mem_cons, List.not_mem_nil, or_false] at hm
  rcases hm with rfl | rfl | rfl | rfl | rfl | rfl
  ·rfl
  ·rfl
  ·rfl
  ·rfl
  ·rfl
  ·show some ((n * 9600).tdiv 2540) = some ((n * 960).tdiv 254)
   rw [show n * 9600 = (n * 960) * 10 by omega, show (2540 : Int) = 254 * 10 by rfl, Int.mul_tdiv_mul_of_pos_left _ _ (by decide)]
end Vl
def Rdc (w : World) (A : Option Addr) (n size : Nat) (xs : List Value) : Prop :=
 xs.length = n * size /\ (0 < n -> ∃ b off, A = some ⟨b, off, none⟩ /\ ∀ j u, xs[j]? = some u -> w.cell? ⟨b, off + j, none⟩ = some u)
theorem Rdc.of_bs {w : World} {B : Nat} {A : Option Addr} {l : List Int} (h : Bs w B .u8 A l) : Rdc w A l.length 1 (nums .u8 l) :=
 ⟨by rw [nums_len]; simp, fun h0 => by
  obtain ⟨b, off, e, _, hc⟩ := h h0
  refine ⟨b, off, e, fun j u hu => ?_⟩
  obtain ⟨hj, rfl⟩ := nums_at hu
  exact hc j hj⟩
theorem Rdc.of_ts {w : World} {B : Nat} {A : Option Addr} {ts : List Tk.Tok} (h : Ts w B A ts) : Rdc w A ts.length 3 (Tk.cells ts) :=
 ⟨Tk.cells_len ts, fun h0 => by
  obtain ⟨b, off, e, _, hc⟩ := h h0
  refine ⟨b, off, e, fun j u hu => ?_⟩
  have hj : j < ts.length * 3 := by rw [<- Tk.cells_len]; exact (List.getElem?_eq_some_iff.1 hu).1
  obtain ⟨c0, c1, c2⟩ := hc (j / 3) (by omega)
  obtain ⟨d0, d1, d2⟩ := Tk.cells_at ts (j / 3) (by omega)
  rcases (show j = j / 3 * 3 ∨ j = j / 3 * 3 + 1 ∨ j = j / 3 * 3 + 2 by omega) with q | q | q
  ·rw [<- q] at c0 d0
   rw [d0] at hu
   rw [c0]; exact hu
  ·rw [Nat.add_assoc, <- q] at c1
   rw [<- q] at d1
   rw [d1] at hu
   rw [c1]; exact hu
  ·rw [Nat.add_assoc, <- q] at c2
   rw [<- q] at d2
   rw [d2] at hu
   rw [c2]; exact hu⟩
theorem cells_ok (ts : List Tk.Tok) : ∀ u ∈ Tk.cells ts, u.oneCell' = true := by
 intro u hu
 unfold Tk.cells at hu
 obtain ⟨t, _, ht⟩ := List.mem_flatMap.1 hu
 simp only [List.mem_cons, List.not_mem_nil, or_false] at ht
 rcases ht with rfl | rfl | rfl <;> rfl
section
variable {P : Program} (w : World)
theorem run_append_none (base : Nat) (t ty e : TypeId) (i : TypeInfo) (size : Nat) (ht : P.underlying t = some (.slice e)) (hi : P.info? e = some i)
 (v : Value) (n : Nat) (xs : List Value) (hown : w.ownsRow base e size v n xs) (c : Nat) : (Builtin.append_ #[t, t] ty #[v, .slice none 0 c]).run P w = .ok v w := by
 rcases hown.2 with ⟨rfl, rfl⟩ | ⟨g, cap, cur, rfl, _, _, hnc, _⟩
 ·simp [Builtin.append_, run_underlying ht, sizeOf, typeInfo, hi, Builtin.lenOf, Builtin.firstCells]
 ·simp [Builtin.append_, run_underlying ht, sizeOf, typeInfo, hi, Builtin.lenOf, Builtin.firstCells, hnc, storeCells]
theorem run_append_rd (base : Nat) (t ty e : TypeId) (i : TypeInfo) (z : Value) (size bytes : Nat) (ht : P.underlying t = some (.slice e)) (hi : P.info? e = some i) (hz : i.zero = some z)
 (hsize : i.size = size) (hby : i.bytes = bytes) (hzs : z.cells.size = size) (hsz : 0 < size)
 (v : Value) (n : Nat) (xs : List Value) (hown : w.ownsRow base e size v n xs)
 (A : Option Addr) (m : Nat) (news : List Value) (c : Nat) (hr : Rdc w A m size news) (h1 : ∀ u ∈ news, u.oneCell' = true)
 (h63 : n + m <= maxLen) (hbytes : (n + m) * bytes <= 140737488355328) (hbase : base <= w.heap.size) :
 ∃ v' w', (Builtin.append_ #[t, t] ty #[v, .slice A m c]).run P w = .ok v' w' /\ w'.ownsRow base e size v' (n + m) (xs ++ news) /\ w.grownBy w' v.ownBlock := by
 rcases A with _ | ad
 ·have hm : m = 0 := by
   rcases Nat.eq_zero_or_pos m with h0 | h0
   ·exact h0
   ·obtain ⟨b, off, h, _⟩ := hr.2 h0
    cases h
  subst hm
  have hn : news = [] := List.eq_nil_of_length_eq_zero (by rw [hr.1]; simp)
  subst hn
  exact ⟨v, w, run_append_none w base t ty e i size ht hi v n xs hown c, by simpa using hown, World.grownBy.refl w _⟩
 ·have hcells : ∀ j u, news[j]? = some u -> w.cell? (ad.add j) = some u := by
   intro j u hu
   have hj : j < m * size := by rw [<- hr.1]; exact (List.getElem?_eq_some_iff.1 hu).1
   have hm : 0 < m := by
    rcases Nat.eq_zero_or_pos m with h0 | h0
    ·rw [h0] at hj; simp at hj
    ·exact h0
   obtain ⟨b, off, h, hc⟩ := hr.2 hm
   injection h with h
   subst h
   rw [Addr.add_lit]
   exact hc j u hu
  obtain ⟨v', w', hrun, h2, h3, _, _⟩ := run_append_own_at (P := P) w base t ty e i z size bytes ht hi hz hsize hby hzs hsz v n xs hown ad m c news hr.1 hcells h1 h63 hbytes hbase
  exact ⟨v', w', hrun, h2, h3⟩
theorem wpList_append_rd {ops : Array Oper} {rest : List Oper} {o : Oper} {a : Act} {Q : Exit -> Act -> World -> Prop} (hgd : o.guard = none) (s x : Operand) (t : TypeId)
 (ho : o.op = .call { callee := .builtin .append, args := #[s, x], argTypes := #[t, t] })
 (base : Nat) (e : TypeId) (i : TypeInfo) (z : Value) (size bytes : Nat) (ht : P.underlying t = some (.slice e)) (hi : P.info? e = some i) (hz : i.zero = some z)
 (hsize : i.size = size) (hby : i.bytes = bytes) (hzs : z.cells.size = size) (hsz : 0 < size)
 (v : Value) (n : Nat) (xs : List Value) (hs : a.eval s = v) (hown : w.ownsRow base e size v n xs)
 (A : Option Addr) (m : Nat) (news : List Value) (c : Nat) (hx : a.eval x = .slice A m c) (hr : Rdc w A m size news) (h1 : ∀ u ∈ news, u.oneCell' = true)
 (h63 : n + m <= maxLen) (hbytes : (n + m) * bytes <= 140737488355328) (hbase : base <= w.heap.size)
 (h : ∀ v' w', w'.ownsRow base e size v' (n + m) (xs ++ news) -> w.grownBy w' v.ownBlock -> wpList P ops Q rest (a.put o.dst v') w') : wpList P ops Q (o :: rest) a w := by
 refine wpList_plain hgd fun K hK => ?_
 obtain ⟨v', w', hrun, h2, h3⟩ := run_append_rd (P := P) w base t o.type e i z size bytes ht hi hz hsize hby hzs hsz v n xs hown A m news c hr h1 h63 hbytes hbase
 unfold Oper.wp execOp
 simp only [ho, resolve, invoke, builtin, Sem.run_bind, Sem.run_pure, Result.andThen_ok, List.map_toArray, List.map_cons, List.map_nil, hs, hx, hrun]
 exact hK _ _ (h v' w' h2 h3)
end
theorem app_all {ops : Array Oper} {rest : List Oper} {o : Oper} {a : Act} {Q : Exit -> Act -> World -> Prop} {w0 wr : World} {v : Value} {n sz : Nat} {xs : List Value} {E : TypeId} (hgd : o.guard = none) (s x : Operand) (t : TypeId)
 (ho : o.op = .call { callee := .builtin .append, args := #[s, x], argTypes := #[t, t] }) (i : TypeInfo) (z : Value) (bytes : Nat) (ht : Try.prog.underlying t = some (.slice E)) (hi : Try.prog.info? E = some i) (hz : i.zero = some z)
 (hsize : i.size = sz) (hby : i.bytes = bytes) (hzs : z.cells.size = sz) (hsz : 0 < sz) (hs : a.eval s = v) (H : Ow E sz w0 v n xs wr) (A : Option Addr) (m c : Nat) (news : List Value)
 (hx : a.eval x = .slice A m c) (hr : Rdc wr A m sz news) (h1 : ∀ u ∈ news, u.oneCell' = true) (h63 : n + m <= maxLen) (hbytes : (n + m) * bytes <= 140737488355328)
 (h : ∀ v' w3, Ow E sz w0 v' (n + m) (xs ++ news) w3 -> wpList Try.prog ops Q rest (a.put o.dst v') w3) : wpList Try.prog ops Q (o :: rest) a wr := by
 refine wpList_append_rd (w := wr) hgd s x t ho w0.heap.size E i z sz bytes ht hi hz hsize hby hzs hsz v n xs hs H.own A m news c hx hr h1 h63 hbytes H.bel.size ?_
 intro v' w3 hown hg
 exact h v' w3 ⟨hown, H.bel.grown hg H.bel.size (fun j hj => (H.own.lt j hj).1)⟩
theorem ow_empty (w : World) (E : TypeId) (sz : Nat) : Ow E sz w (.slice (some ⟨w.heap.size, 0, none⟩) 0 0) 0 [] (w.alloc (.cells #[] E)) :=
 ⟨World.ownsRow_lit w #[] 0 (Nat.le_refl _) (by decide) (by simp), (Below.refl _ _).alloc (Nat.le_refl _) _⟩
structure En (B b : Nat) (w : World) (es : List Int) (v : Value) (op : List Int) (wr : World) : Prop where
 own : wr.ownsRow B 3 1 v op.length (nums .i64 op)
 row : wr.heap[b]? = some (.cells (nums .i64 es).toArray 3 (0, 0))
 bel : Below w.heap.size w wr
 new : w.heap.size <= b
 lt : b < B
 siz : B <= wr.heap.size
section
variable {B b : Nat} {w wr w1 : World} {es op : List Int} {v : Value}
theorem En.next (h : En B b w es v op wr) (hb : Below wr.heap.size wr w1) : En B b w es v op w1 :=
 ⟨kept_below h.own hb (Nat.le_refl _), (hb.block b (Nat.lt_of_lt_of_le h.lt h.siz)).trans h.row, below_next h.bel hb, h.new, h.lt, Nat.le_trans h.siz hb.size⟩
theorem En.drewN (h : En B b w es v op wr) (n : Nat) : En B b w es v op (wr.drewN n) := ⟨h.own, h.row, below_drewN h.bel n, h.new, h.lt, h.siz⟩
theorem En.cell (h : En B b w es v op wr) {j : Nat} (hj : j < es.length) : wr.cell? ⟨b, j, none⟩ = some (.int .i64 (Ru.g es j)) := by
 rw [cell_of_row wr b j _ 3 (0, 0) h.row, List.getElem?_toArray]
 exact nums_get hj
theorem En.free (h : En B b w es v op wr) (j : Nat) : wr.frozen? ⟨b, j, none⟩ = false := by simp [World.frozen?, h.row]
theorem En.set_ (h : En B b w es v op wr) (j : Nat) (y : Int) : En B b w (es.set j y) v op (wr.setCell ⟨b, j, none⟩ (.int .i64 y)) := by
 refine ⟨?_, ?_, h.bel.setCell h.new _, h.new, h.lt, ?_⟩
 ·refine ⟨h.own.1, ?_⟩
  rcases h.own.2 with h1 | ⟨g, cap, cur, hv, hg, hh, rest⟩
  ·exact .inl h1
  ·exact .inr ⟨g, cap, cur, hv, hg, (Below.heap_setCell wr _ _ g (fun e => by have := h.lt; have e2 : g = b := e; omega)).trans hh, rest⟩
 ·have hr := h.row
  unfold World.setCell
  simp [Array.getElem?_modify, hr, nums, List.map_set]
 ·have := h.siz; simpa [World.setCell] using this
theorem En.cut {A : Option Addr} {n cap : Nat} (hn : n = op.length) (h : En B b w es (.slice A n cap) op wr) {m : Nat} (hm : m <= n) : En B b w es (.slice A m cap) (op.take m) wr := by
 subst hn
 have h1 := own_cut h.own hm
 rw [Nat.mul_one, <- nums_take] at h1
 have e : (op.take m).length = m := by rw [List.length_take]; exact Nat.min_eq_left hm
 exact ⟨by rw [e]; exact h1, h.row, h.bel, h.new, h.lt, h.siz⟩
theorem En.form (h : En B b w es v op wr) : ∃ (A : Option Addr) (cap : Nat), v = .slice A op.length cap /\ op.length <= cap := by
 rcases h.own.2 with ⟨rfl, h0⟩ | ⟨x, cap, cur, rfl, _, _, hc, _⟩
 ·exact ⟨none, 0, by rw [h0], by omega⟩
 ·exact ⟨_, cap, rfl, hc⟩
theorem En.at_ (h : En B b w es v op wr) (h0 : 0 < op.length) : ∃ g cap, v = .slice (some ⟨g, 0, none⟩) op.length cap /\ op.length <= cap /\ g < wr.heap.size /\ ∀ j, j < op.length -> wr.cell? ⟨g, j, none⟩ = some (.int .i64 (Ru.g op j)) := by
 rcases h.own.2 with ⟨_, h1⟩ | ⟨x, cap, cur, rfl, hg, hh, hc, _⟩
 ·omega
 ·refine ⟨x, cap, rfl, hc, (Array.getElem?_eq_some_iff.1 hh).1, fun j hj => ?_⟩
  have := h.own.cells (g := x) rfl j _ (nums_get (k := .i64) hj)
  rwa [Addr.add_lit, Nat.zero_add] at this
theorem En.app {ops : Array Oper} {rest : List Oper} {o : Oper} {a : Act} {Q : Exit -> Act -> World -> Prop} (hgd : o.guard = none) (s x : Operand)
 (ho : o.op = .call { callee := .builtin .append, args := #[s, x], argTypes := #[39, 39] }) (hs : a.eval s = v) (H : En B b w es v op wr) (y : Int) (c : Nat) (E' : TypeId)
 (hx : a.eval x = .slice (some ⟨wr.heap.size, 0, none⟩) 1 c) (hm : op.length <= 1000000)
 (h : ∀ v' w3, En B b w es v' (op ++ [y]) w3 -> wpList Try.prog ops Q rest (a.put o.dst v') w3) : wpList Try.prog ops Q (o :: rest) a (wr.alloc (.cells #[.int .i64 y] E')) := by
 obtain ⟨i0, hi, hz0, hz1, hz2⟩ := info_parts Try.info3
 refine wpList_append_own _ hgd s x 39 ho B 3 i0 (.int .i64 0) 1 8 Try.underlying39 hi hz0 hz1 hz2 rfl (by decide) v op.length (nums .i64 op) hs (H.own.alloc _) ⟨wr.heap.size, 0, none⟩ 1 c [.int .i64 y] hx (by simp) (fun j u hj => ?_) (one_ok _) (by unfold maxLen; omega) (by omega) (Nat.le_trans H.siz (by simp)) ?_
 ·rw [Addr.add_lit, Nat.zero_add, World.cell?_alloc_mark]
  simpa using hj
 ·intro v' w3 hown hg _
  refine h v' w3 ⟨?_, ?_, ?_, H.new, H.lt, ?_⟩
  ·rw [List.length_append, nums_app]; exact hown
  ·have hlt : b < wr.heap.size := Nat.lt_of_lt_of_le H.lt H.siz
   refine (hg.block b (by simp; omega) (fun e => ?_)).trans ((Below.heap_alloc wr _ b hlt).trans H.row)
   have := (H.own.lt b e.symm).1
   have := H.lt
   omega
  ·refine (H.bel.alloc H.bel.size _).grown hg (by have := H.bel.size; simp; omega) (fun j hj => ?_)
   have h1 := (H.own.lt j hj).1
   have h2 := H.bel.size
   have h3 := H.lt
   have h4 := H.new
   omega
  ·have := hg.size
   have := H.siz
   simp at *
   omega
theorem En.told {n : Nat} (hn : es.length = n) (hm : n <= 1000000) (h : En B b w es v op wr) : wr.ownsRow w.heap.size 3 1 (.slice (some ⟨b, 0, none⟩) n n) es.length (nums .i64 es) := by
 subst hn
 refine ⟨by rw [nums_len, Nat.mul_one], .inr ⟨b, es.length, _, rfl, h.new, h.row, Nat.le_refl _, by unfold maxLen; omega, by simp [nums_len], ?_⟩⟩
 rw [Nat.mul_one, List.toList_toArray, List.take_of_length_le (by rw [nums_len]; exact Nat.le_refl _)]
end
theorem made_zero (n : Nat) : madeCells #[Value.int .i64 0] n = (nums .i64 (List.replicate n 0)).toArray := by
 unfold madeCells nums
 apply Array.ext
 ·simp
 ·intro i h1 h2
  simp [Nat.mod_one]
namespace Ns
open Tk
def enZ (ts : List Tok) (k : Nat) : List Int := enF ts k ++ List.replicate (ts.length - k) 0
theorem enZ_len {ts : List Tok} {k : Nat} (h : k <= ts.length) : (enZ ts k).length = ts.length := by unfold enZ; rw [List.length_append, enF_len, List.length_replicate]; omega
theorem enZ_end (ts : List Tok) : enZ ts ts.length = ends ts := by unfold enZ; rw [Nat.sub_self]; simp [ends]
theorem rep_set {n : Nat} (h : 0 < n) (y : Int) : (List.replicate n (0 : Int)).set 0 y = y :: List.replicate (n - 1) 0 := by
 obtain ⟨m, rfl⟩ : ∃ m, n = m + 1 := ⟨n - 1, by omega⟩
 rfl
theorem enZ_mark {ts : List Tok} {k : Nat} (h : k < ts.length) (y : Int) : (enZ ts k).set k y = enF ts k ++ y :: List.replicate (ts.length - (k + 1)) 0 := by
 unfold enZ
 rw [List.set_append_right _ _ (by rw [enF_len]; exact Nat.le_refl _), enF_len, Nat.sub_self, rep_set (by omega)]
 congr 3
theorem enZ_push {ts : List Tok} {k : Nat} (h : k < ts.length) (hO : isO (tk ts k)) : ((enZ ts k).set k (-1)).set k (ts.length : Int) = enZ ts (k + 1) := by
 rw [List.set_set, enZ_mark h]
 unfold enZ
 rw [enF_push hO, List.append_assoc]; rfl
theorem enZ_keep {ts : List Tok} {k : Nat} (h : k < ts.length) (hO : ¬ isO (tk ts k)) (hc : ¬ closes ts (opn ts k) k) : (enZ ts k).set k (-1) = enZ ts (k + 1) := by
 rw [enZ_mark h]
 unfold enZ
 rw [enF_keep hO hc, List.append_assoc]; rfl
theorem enZ_pop {ts : List Tok} {k : Nat} (h : k < ts.length) (hc : closes ts (opn ts k) k) : ((enZ ts k).set k (-1)).set (top (opn ts k)) (k : Int) = enZ ts (k + 1) := by
 have ht : top (opn ts k) < k := opn_lt (top_mem hc.2.1)
 rw [enZ_mark h]
 unfold enZ
 rw [enF_pop hc, List.append_assoc, List.set_append_left _ _ (by rw [enF_len]; exact ht)]; rfl
end Ns
theorem closing_any (k : Int) (t : ByteArray) (n : Int) (w : World) : Calls Try.prog 81 #[tokV k t n] w (Sg (Ns.clo (k, t, n)) w) := by
 obtain ⟨W0, hW⟩ : ∃ W0, W0 = w.alloc (.cells #[.int .i64 k, .string t, .int .i64 n] 36) := ⟨_, rfl⟩
 have hb0 : Below w.heap.size w W0 := by rw [hW]; exact (Below.refl _ _).alloc (Nat.le_refl _) _
 have k0 : W0.heap[w.heap.size]? = some (.cells #[.int .i64 k, .string t, .int .i64 n] 36 (0, 0)) := by rw [hW]; exact heap_alloc_new w _
 obtain ⟨q0, q1, q2⟩ := tok3_cells k0
 have HB0 := Lib.hid hb0
 have HW := Lib.hid hW
 clear hb0 k0 hW
 unfold tokV
 by_cases h3 : k = 3
 ·subst h3
  have HV : Hid (Ns.clo (3, t, n) = ⟨#[41]⟩) := Lib.hid (by unfold Ns.clo; rw [if_pos (.inl rfl)])
  go_enter Try.func81, Try.ntmps81
  go_upto_region 1 with fail
  rw [<- HW.out]
  go_wp2_with fail
  go_ret
  exact ⟨by rw [HV.out]; rfl, HB0.out⟩
 ·have e3 : (k == 3) = false := beq_false_of_ne h3
  by_cases h12 : k = 12
  ·subst h12
   clear h3
   have cases4 : t = ⟨#[40]⟩ ∨ t = ⟨#[91]⟩ ∨ t = ⟨#[123]⟩ ∨ ((t.toList == [40]) = false /\ (t.toList == [91]) = false /\ (t.toList == [123]) = false) := by
    rw [str_test, str_test, str_test]
    by_cases a : t = ⟨#[40]⟩
    ·exact .inl a
    ·by_cases b : t = ⟨#[91]⟩
     ·exact .inr (.inl b)
     ·by_cases c : t = ⟨#[123]⟩
      ·exact .inr (.inr (.inl c))
      ·exact .inr (.inr (.inr ⟨decide_eq_false a, decide_eq_false b, decide_eq_false c⟩))
   have HV : Hid (t = ⟨#[40]⟩ ∨ t = ⟨#[91]⟩ ∨ t = ⟨#[123]⟩ ∨ Ns.clo (12, t, n) = ⟨#[]⟩) := Lib.hid (by
    rcases cases4 with h | h | h | ⟨h1, h2, h3⟩
    ·exact .inl h
    ·exact .inr (.inl h)
    ·exact .inr (.inr (.inl h))
    ·rw [str_test] at h1 h2 h3
     refine .inr (.inr (.inr ?_))
     unfold Ns.clo
     rw [if_neg (fun h => h.elim (fun h => by cases h) (fun h => of_decide_eq_false h1 h.2)), if_neg (fun h => of_decide_eq_false h2 h.2), if_neg (fun h => of_decide_eq_false h3 h.2)])
   rcases cases4 with rfl | rfl | rfl | ⟨e4, e5, e6⟩
   ·clear HV
    go_enter Try.func81, Try.ntmps81
    go_upto_region 1 with fail
    rw [<- HW.out]
    go_wp2_with fail
    go_ret
    exact ⟨rfl, HB0.out⟩
   ·clear HV
    go_enter Try.func81, Try.ntmps81
    go_upto_region 1 with fail
    rw [<- HW.out]
    go_wp2_with fail
    go_ret
    exact ⟨rfl, HB0.out⟩
   ·clear HV
    go_enter Try.func81, Try.ntmps81
    go_upto_region 1 with fail
    rw [<- HW.out]
    go_wp2_with fail
    go_ret
    exact ⟨rfl, HB0.out⟩
   ·have HV2 : Hid (Ns.clo (12, t, n) = ⟨#[]⟩) := Lib.hid (by
     rcases HV.out with h | h | h | h
     ·rw [str_test] at e4; exact absurd h (of_decide_eq_false e4)
     ·rw [str_test] at e5; exact absurd h (of_decide_eq_false e5)
     ·rw [str_test] at e6; exact absurd h (of_decide_eq_false e6)
     ·exact h)
    clear HV
    go_enter Try.func81, Try.ntmps81
    go_upto_region 1 with fail
    rw [<- HW.out]
    go_wp2_with fail
    go_ret
    exact ⟨by rw [HV2.out]; rfl, HB0.out⟩
  ·have e12 : (k == 12) = false := beq_false_of_ne h12
   have HV : Hid (Ns.clo (k, t, n) = ⟨#[]⟩) := Lib.hid (Ns.clo_none (Ns.not_O h3 h12))
   clear h3 h12
   go_enter Try.func81, Try.ntmps81
   go_upto_region 1 with fail
   rw [<- HW.out]
   go_wp2_with fail
   go_ret
   exact ⟨by rw [HV.out]; rfl, HB0.out⟩
def Ns.shuts (u o : Tk.Tok) : Prop := u.1 = 13 /\ Ns.clo o = u.2.1
instance (u o : Tk.Tok) : Decidable (Ns.shuts u o) := by unfold Ns.shuts; infer_instance
theorem ncloses_any (k : Int) (t : ByteArray) (n : Int) (k2 : Int) (t2 : ByteArray) (n2 : Int) (w : World) :
 Calls Try.prog 82 #[tokV k t n, tokV k2 t2 n2] w (Bo (decide (Ns.shuts (k, t, n) (k2, t2, n2))) w) := by
 obtain ⟨W0, hW⟩ : ∃ W0, W0 = (w.alloc (.cells #[.int .i64 k, .string t, .int .i64 n] 36)).alloc (.cells #[.int .i64 k2, .string t2, .int .i64 n2] 36) := ⟨_, rfl⟩
 have hb0 : Below w.heap.size w W0 := by rw [hW]; exact ((Below.refl _ _).alloc (Nat.le_refl _) _).alloc (by simp) _
 have k0 : W0.heap[w.heap.size]? = some (.cells #[.int .i64 k, .string t, .int .i64 n] 36 (0, 0)) := by
  rw [hW]; exact (Below.heap_alloc _ _ _ (by simp)).trans (heap_alloc_new w _)
 have k1 : W0.heap[w.heap.size + 1]? = some (.cells #[.int .i64 k2, .string t2, .int .i64 n2] 36 (0, 0)) := by
  rw [hW]
  have := heap_alloc_new (w.alloc (.cells #[.int .i64 k, .string t, .int .i64 n] 36)) (.cells #[.int .i64 k2, .string t2, .int .i64 n2] 36)
  rwa [show (w.alloc (.cells #[.int .i64 k, .string t, .int .i64 n] 36)).heap.size = w.heap.size + 1 by simp] at this
 have hz0 : w.heap.size + 1 < W0.heap.size := by rw [hW]; simp
 obtain ⟨p0, p1, p2⟩ := tok3_cells k0
 obtain ⟨q0, q1, q2⟩ := tok3_cells k1
 have HB0 := Lib.hid hb0
 have HW := Lib.hid hW.symm
 have CC : Hid (∀ W, Calls Try.prog 81 #[.agg #[.int .i64 k2, .string t2, .int .i64 n2]] W (Sg (Ns.clo (k2, t2, n2)) W)) := Lib.hid fun W => closing_any _ _ _ W
 clear hb0 k0 k1 hW
 unfold tokV
 by_cases h : k = 13
 ·subst h
  have HV : Hid ((t.toList == (Ns.clo (k2, t2, n2)).toList) = decide (Ns.shuts (13, t, n) (k2, t2, n2))) := Lib.hid (by
   rw [str_same]
   exact decide_eq_decide.2 ⟨fun h => ⟨rfl, h.symm⟩, fun h => h.2.symm⟩)
  generalize Ns.clo (k2, t2, n2) = ct at *
  generalize decide (Ns.shuts (13, t, n) (k2, t2, n2)) = bv at *
  go_enter Try.func82, Try.ntmps82
  go_upto_region 1 with fail
  rw [HW.out]
  clear HW
  have hs0 : w.heap.size < W0.heap.size := by omega
  go_region_held3 (fun w' => w'.cell? ⟨w.heap.size, 0, none⟩ = some (.int .i64 13) /\ w'.cell? ⟨w.heap.size, 1, none⟩ = some (.string t) /\ w'.cell? ⟨w.heap.size + 1, 0, none⟩ = some (.int .i64 k2) /\ w'.cell? ⟨w.heap.size + 1, 1, none⟩ = some (.string t2) /\ w'.cell? ⟨w.heap.size + 1, 2, none⟩ = some (.int .i64 n2))
   (first | go_keep | (go_split_ands; exact ⟨(hb1.cell (p := ⟨w.heap.size, 0, none⟩) hs0).trans (by assumption), (hb1.cell (p := ⟨w.heap.size, 1, none⟩) hs0).trans (by assumption), (hb1.cell (p := ⟨w.heap.size + 1, 0, none⟩) hz0).trans (by assumption), (hb1.cell (p := ⟨w.heap.size + 1, 1, none⟩) hz0).trans (by assumption), (hb1.cell (p := ⟨w.heap.size + 1, 2, none⟩) hz0).trans (by assumption)⟩))
   (first | (go_at_call 81; refine (CC.out _).mono ?_; rintro e w2 ⟨rfl, hb1⟩))
  have HB2 := Lib.hid (below_next HB0.out ((Below.refl _ _).drew.trans hb1))
  clear hb1 p0 p1 p2 q0 q1 q2
  go_wp2_with fail
  go_ret
  exact ⟨by rw [<- HV.out]; rfl, HB2.out⟩
 ·have e : (k == 13) = false := beq_false_of_ne h
  have HV : Hid (decide (Ns.shuts (k, t, n) (k2, t2, n2)) = false) := Lib.hid (decide_eq_false fun c => h c.1)
  clear h
  go_enter Try.func82, Try.ntmps82
  go_upto_region 1 with fail
  rw [HW.out]
  clear HW
  go_quiet (fail)
  go_wp2_with fail
  go_ret
  exact ⟨by rw [HV.out]; rfl, below_drewN HB0.out _⟩
def EndsJ (ts : List Tk.Tok) (A : Option Addr) (cap : Nat) (w : World) (a' : Act) (wr : World) : Prop :=
 ∃ (k : Nat) (v : Value) (u1 u2 u3 u7 u8 u9 u10 u11 u12 u13 u14 u15 u16 u17 u18 u19 u20 u21 u22 u23 u24 u25 u26 u27 u28 u29 u30 u31 u32 u33 u34 u35 u36 u37 u38 u39 u40 u41 u42 u43 u44 u45 u46 u47 u48 u49 u50 u51 u52 u53 u54 u55 u56 u57 u58 u59 u60 u61 u62 u63 u64 u65 u66 u67 : Value), a' = { tmps := #[.slice A ts.length cap, u1, u2, u3, .slice (some ⟨w.heap.size, 0, none⟩) ts.length ts.length, v, .int .i64 k, u7, u8, u9, u10, u11, u12, u13, u14, u15, u16, u17, u18, u19, u20, u21, u22, u23, u24, u25, u26, u27, u28, u29, u30, u31, u32, u33, u34, u35, u36, u37, u38, u39, u40, u41, u42, u43, u44, u45, u46, u47, u48, u49, u50, u51, u52, u53, u54, u55, u56, u57, u58, u59, u60, u61, u62, u63, u64, u65, u66, u67], defers := [] } /\ k <= ts.length /\ Hid (En (w.heap.size + 1) w.heap.size w (Ns.enZ ts k) v (Ns.ni (Ns.opn ts k)) wr) /\ Hid (∀ j, j <= k -> (Ns.opn ts j).length <= 64)
def at6 (a : Act) : Nat := (RowKit.intOf (a.tmps.getD 6 undef)).toNat
theorem shuts_iff {ts : List Tk.Tok} {k : Nat} (hn : Ns.opn ts k ≠ []) : Ns.shuts (Tk.tk ts k) (Tk.tk ts (Ns.top (Ns.opn ts k))) ↔ Ns.closes ts (Ns.opn ts k) k := ⟨fun h => ⟨h.1, hn, h.2⟩, fun h => ⟨h.1, h.2.2⟩⟩
theorem nends_code (ts : List Tk.Tok) (hm : ts.length <= 20000) (A : Option Addr) (cap : Nat) (w : World) (h : Ts w w.heap.size A ts) :
 Calls Try.prog 62 #[.slice A ts.length cap] w (EndsIs ts w) := by
 have hmk := run_make_row' (P := Try.prog) 39 3 (.int .i64 0) 8 Try.underlying39 Try.info3 rfl .i64 .i64 ts.length (by omega) (by omega)
 have HT := Lib.hid h
 obtain ⟨W0, hW⟩ : ∃ W0, W0 = w.alloc (.cells (madeCells #[.int .i64 0] ts.length) 3) := ⟨_, rfl⟩
 have HE0 : Hid (En (w.heap.size + 1) w.heap.size w (Ns.enZ ts 0) (.slice none 0 0) (Ns.ni (Ns.opn ts 0)) W0) := Lib.hid (by
  rw [hW]
  refine ⟨World.ownsRow_nil _ _ _ _, ?_, (Below.refl _ _).alloc (Nat.le_refl _) _, Nat.le_refl _, Nat.lt_succ_self _, by simp⟩
  rw [show Ns.enZ ts 0 = List.replicate ts.length 0 from rfl, <- made_zero]
  exact heap_alloc_new w _)
 have HW := Lib.hid hW.symm
 clear h hW
 go_enter Try.func62, Try.ntmps62
 go_wp2_with fail
 refine wp_scope_jumps 0 (fun a' wr => EndsJ ts A cap w a' wr) (fun a' _ => ts.length - at6 a') rfl ?_ ?_
 ·go_upto_region 2 with fail
  rw [HW.out]
  clear HW hmk
  go_wp2_with fail
  try go_step3
  have hk0 : 0 <= ts.length := Nat.zero_le _
  have HD : Hid (∀ j, j <= 0 -> (Ns.opn ts j).length <= 64) := Lib.hid fun j hj => by obtain rfl : j = 0 := by omega
                                                                                      exact Nat.zero_le _
  by_cases hlt : 0 < ts.length
  ·have hcell := HE0.out.cell (j := 0) (by rw [Ns.enZ_len hk0]; exact hlt)
   have hfree := HE0.out.free 0
   obtain ⟨W1, hW1⟩ : ∃ W1, W1 = W0.setCell ⟨w.heap.size, 0, none⟩ (.int .i64 (-1)) := ⟨_, rfl⟩
   have HE1 : Hid (En (w.heap.size + 1) w.heap.size w ((Ns.enZ ts 0).set 0 (-1)) (.slice none 0 0) (Ns.ni (Ns.opn ts 0)) W1) := Lib.hid (by rw [hW1]; exact HE0.out.set_ 0 (-1))
   have HW1 := Lib.hid hW1.symm
   obtain ⟨bb, off, rfl, hbb, hp⟩ := (HT.out.next HE1.out.bel) (by omega)
   obtain ⟨p0, p1, p2⟩ := hp 0 hlt
   have HP := Lib.hid hp
   have CC : Hid (∀ W, Calls Try.prog 81 #[.agg #[.int .i64 (Tk.tk ts 0).1, .string (Tk.tk ts 0).2.1, .int .i64 (Tk.tk ts 0).2.2]] W (Sg (Ns.clo (Tk.tk ts 0)) W)) := Lib.hid fun W => closing_any _ _ _ W
   have hol := Ns.opn_len ts 0
   have hnl := Ns.ni_len (Ns.opn ts 0)
   have hne : (0 == ts.length) = false := beq_false_of_ne (by omega)
   have hne2 : (((0 : Nat) : Int) == (ts.length : Int)) = false := beq_false_of_ne (by omega)
   have hzl := Ns.enZ_len (ts := ts) (k := 0) hk0
   have hd0 := HD.out 0 (Nat.le_refl _)
   clear hp hW1
   simp only [Nat.zero_mul, Nat.add_zero] at p0 p1 p2
   go_upto_region 7 with fail
   rw [HW1.out]
   clear HW1 hcell hfree
   by_cases hO : Ns.isO (Tk.tk ts 0)
   ·have he := Ns.empty_f hO
    have HN : Hid (Ns.ni (Ns.opn ts 1) = Ns.ni (Ns.opn ts 0) ++ [((0 : Nat) : Int)]) := Lib.hid (by rw [show 1 = 0 + 1 from rfl, Ns.opn_push hO, Ns.ni_app]; rfl)
    have HZ := Lib.hid (Ns.enZ_push hlt hO)
    have hpl : (Ns.opn ts 1).length = (Ns.opn ts 0).length + 1 := by rw [show 1 = 0 + 1 from rfl, Ns.opn_push hO]; simp
    have HV := HZ.out
    have e64 : ((Ns.ni (Ns.opn ts 0)).length == 64) = false := beq_false_of_ne (by omega)
    have e64i : (((Ns.ni (Ns.opn ts 0)).length : Int) == 64) = false := beq_false_of_ne (by omega)
    have HD2 : Hid (∀ j, j <= 1 -> (Ns.opn ts j).length <= 64) := Lib.hid fun j hj => by
     by_cases e : j = 1
     ·subst e; omega
     ·exact HD.out j (by omega)
    have hzk : 0 < ((Ns.enZ ts 0).set 0 (-1)).length := by rw [List.length_set]; omega
    have hol2 : (Ns.ni (Ns.opn ts 0)).length <= 1000000 := by omega
    clear hpl hnl hol
    generalize Ns.clo (Tk.tk ts 0) = cl at *
    generalize Tk.tk ts 0 = u at *
    go_upto_region 10 with (go_at_call 81; ((with_reducible refine (CC.out _).mono ?_); rintro e w2 ⟨rfl, b2⟩; have HE2 := Lib.hid (HE1.out.next b2); clear b2))
    have c3 := HE2.out.cell hzk
    have z3 := HE2.out.free 0
    obtain ⟨W3, hW3⟩ : ∃ W3, W3 = w2.setCell ⟨w.heap.size, 0, none⟩ (.int .i64 ts.length) := ⟨_, rfl⟩
    have HE3 : Hid (En (w.heap.size + 1) w.heap.size w (Ns.enZ ts 1) (.slice none 0 0) (Ns.ni (Ns.opn ts 0)) W3) := Lib.hid (by rw [hW3, <- HV]; exact HE2.out.set_ 0 _)
    have HW3 := Lib.hid hW3.symm
    clear hW3 hzk HV
    go_upto_region 11 with fail
    rw [HW3.out]
    clear HW3 c3 z3
    go_wp2_with (at_builtin; refine En.app rfl _ _ rfl rfl HE3.out ((0 : Nat) : Int) _ _ rfl hol2 ?_; intro v' w4 H4; rw [<- HN.out] at H4; have HE4 := Lib.hid H4; clear H4)
    go_step3
    exact ⟨rfl, ⟨1, _, _, _, _, _, _, _, _, _, _, _, _, _, _, _, _, _, _, _, _, _, _, _, _, _, _, _, _, _, _, _, _, _, _, _, _, _, _, _, _, _, _, _, _, _, _, _, _, _, _, _, _, _, _, _, _, _, _, _, _, _, _, _, _, _, rfl, by omega, HE4, HD2⟩⟩
   ·have hcn := Ns.clo_none hO
    rw [hcn] at CC
    have hcc : ¬ Ns.closes ts (Ns.opn ts 0) 0 := fun h => h.2.1 rfl
    have HN : Hid (Ns.ni (Ns.opn ts 1) = Ns.ni (Ns.opn ts 0)) := Lib.hid (by rw [show (1 : Nat) = 0 + 1 from rfl, Ns.opn_keep hO hcc])
    have HZ := Lib.hid (Ns.enZ_keep hlt hO hcc)
    have HD2 : Hid (∀ j, j <= 1 -> (Ns.opn ts j).length <= 64) := Lib.hid fun j hj => by
     by_cases e : j = 1
     ·subst e; rw [show (1 : Nat) = 0 + 1 from rfl, Ns.opn_keep hO hcc]; exact Nat.zero_le _
     ·exact HD.out j (by omega)
    clear hcn hO hcc HP hol hnl hd0
    generalize Tk.tk ts 0 = u at *
    go_upto_region 13 with (go_at_call 81; ((with_reducible refine (CC.out _).mono ?_); rintro e w2 ⟨rfl, b2⟩; have HE2 := Lib.hid (HE1.out.next b2); clear b2))
    go_quiet (fail)
    go_wp2_with fail
    go_step3
    have HE3 : Hid (En (w.heap.size + 1) w.heap.size w (Ns.enZ ts 1) (.slice none 0 0) (Ns.ni (Ns.opn ts 1)) (w2.drewN nq)) := Lib.hid (by rw [HN.out]; have := HE2.out.drewN nq; rw [HZ.out] at this; exact this)
    exact ⟨rfl, ⟨1, _, _, _, _, _, _, _, _, _, _, _, _, _, _, _, _, _, _, _, _, _, _, _, _, _, _, _, _, _, _, _, _, _, _, _, _, _, _, _, _, _, _, _, _, _, _, _, _, _, _, _, _, _, _, _, _, _, _, _, _, _, _, _, _, _, rfl, by omega, HE3, HD2⟩⟩
  ·obtain rfl : ts = [] := List.eq_nil_of_length_eq_zero (by omega)
   have HF := Lib.hid (HE0.out.told (Ns.enZ_len hk0) (by omega))
   have HB := Lib.hid HE0.out.bel
   have HZ := Lib.hid (show Ns.enZ [] 0 = Ns.ends [] from Ns.enZ_end [])
   simp only [List.length_nil]
   go_wp2_with fail
   simp only [Exit.jump]
   go_ret2
   exact ⟨fun _ => ⟨_, rfl, by have := HF.out; rw [HZ.out] at this; exact this, HB.out⟩, fun ⟨j, h1, h2⟩ => by have := HD.out (j + 1) (by omega); omega⟩
 ·rintro a' wr ⟨k, v, u1, u2, u3, u7, u8, u9, u10, u11, u12, u13, u14, u15, u16, u17, u18, u19, u20, u21, u22, u23, u24, u25, u26, u27, u28, u29, u30, u31, u32, u33, u34, u35, u36, u37, u38, u39, u40, u41, u42, u43, u44, u45, u46, u47, u48, u49, u50, u51, u52, u53, u54, u55, u56, u57, u58, u59, u60, u61, u62, u63, u64, u65, u66, u67, rfl, hk, HE, HD⟩
  clear HW hmk HE0
  obtain ⟨Av, cv, rfl, _⟩ := HE.out.form
  by_cases hlt : k < ts.length
  ·have hcell := HE.out.cell (j := k) (by rw [Ns.enZ_len hk]; exact hlt)
   have hfree := HE.out.free k
   obtain ⟨W1, hW1⟩ : ∃ W1, W1 = wr.setCell ⟨w.heap.size, k, none⟩ (.int .i64 (-1)) := ⟨_, rfl⟩
   have HE1 : Hid (En (w.heap.size + 1) w.heap.size w ((Ns.enZ ts k).set k (-1)) (.slice Av (Ns.ni (Ns.opn ts k)).length cv) (Ns.ni (Ns.opn ts k)) W1) := Lib.hid (by rw [hW1]; exact HE.out.set_ k (-1))
   have HW1 := Lib.hid hW1.symm
   obtain ⟨bb, off, rfl, hbb, hp⟩ := (HT.out.next HE1.out.bel) (by omega)
   obtain ⟨p0, p1, p2⟩ := hp k hlt
   have HP := Lib.hid hp
   have CC : Hid (∀ W, Calls Try.prog 81 #[.agg #[.int .i64 (Tk.tk ts k).1, .string (Tk.tk ts k).2.1, .int .i64 (Tk.tk ts k).2.2]] W (Sg (Ns.clo (Tk.tk ts k)) W)) := Lib.hid fun W => closing_any _ _ _ W
   have hol := Ns.opn_len ts k
   have hnl := Ns.ni_len (Ns.opn ts k)
   have hne : (k == ts.length) = false := beq_false_of_ne (by omega)
   have hne2 : (((k : Nat) : Int) == (ts.length : Int)) = false := beq_false_of_ne (by omega)
   have hzl := Ns.enZ_len (ts := ts) (k := k) hk
   have hd0 := HD.out k (Nat.le_refl _)
   clear hp hW1
   go_upto_region 7 with fail
   rw [HW1.out]
   clear HW1 hcell hfree
   by_cases hO : Ns.isO (Tk.tk ts k)
   ·have he := Ns.empty_f hO
    have HN : Hid (Ns.ni (Ns.opn ts (k + 1)) = Ns.ni (Ns.opn ts k) ++ [((k : Nat) : Int)]) := Lib.hid (by rw [show (k + 1) = k + 1 from rfl, Ns.opn_push hO, Ns.ni_app]; rfl)
    have HZ := Lib.hid (Ns.enZ_push hlt hO)
    have hpl : (Ns.opn ts (k + 1)).length = (Ns.opn ts k).length + 1 := by rw [show (k + 1) = k + 1 from rfl, Ns.opn_push hO]; simp
    by_cases h64 : (Ns.opn ts k).length = 64
    ·have HV : Hid (Ns.deep ts) := Lib.hid ⟨k, hlt, by omega⟩
     have e64 : ((Ns.ni (Ns.opn ts k)).length == 64) = true := by rw [hnl, h64]; rfl
     have e64i : (((Ns.ni (Ns.opn ts k)).length : Int) == 64) = true := by rw [hnl, h64]; rfl
     clear h64 hpl hnl hol HN HZ HP
     generalize Ns.clo (Tk.tk ts k) = cl at *
     generalize Tk.tk ts k = u at *
     go_wp2_with (go_at_call 81; ((with_reducible refine (CC.out _).mono ?_); rintro e w2 ⟨rfl, b2⟩; have HE2 := Lib.hid (HE1.out.next b2); clear b2))
     simp only [Exit.jump]
     go_ret2
     exact ⟨fun h => absurd HV.out h, fun _ => ⟨rfl, HE2.out.bel⟩⟩
    ·have HV := HZ.out
     have e64 : ((Ns.ni (Ns.opn ts k)).length == 64) = false := beq_false_of_ne (by omega)
     have e64i : (((Ns.ni (Ns.opn ts k)).length : Int) == 64) = false := beq_false_of_ne (by omega)
     have HD2 : Hid (∀ j, j <= (k + 1) -> (Ns.opn ts j).length <= 64) := Lib.hid fun j hj => by
      by_cases e : j = (k + 1)
      ·subst e; omega
      ·exact HD.out j (by omega)
     have hzk : k < ((Ns.enZ ts k).set k (-1)).length := by rw [List.length_set]; omega
     have hol2 : (Ns.ni (Ns.opn ts k)).length <= 1000000 := by omega
     clear hpl hnl hol
     generalize Ns.clo (Tk.tk ts k) = cl at *
     generalize Tk.tk ts k = u at *
     go_upto_region 10 with (go_at_call 81; ((with_reducible refine (CC.out _).mono ?_); rintro e w2 ⟨rfl, b2⟩; have HE2 := Lib.hid (HE1.out.next b2); clear b2))
     have c3 := HE2.out.cell hzk
     have z3 := HE2.out.free k
     obtain ⟨W3, hW3⟩ : ∃ W3, W3 = w2.setCell ⟨w.heap.size, k, none⟩ (.int .i64 ts.length) := ⟨_, rfl⟩
     have HE3 : Hid (En (w.heap.size + 1) w.heap.size w (Ns.enZ ts (k + 1)) (.slice Av (Ns.ni (Ns.opn ts k)).length cv) (Ns.ni (Ns.opn ts k)) W3) := Lib.hid (by rw [hW3, <- HV]; exact HE2.out.set_ k _)
     have HW3 := Lib.hid hW3.symm
     clear hW3 hzk HV
     go_upto_region 11 with fail
     rw [HW3.out]
     clear HW3 c3 z3
     go_wp2_with (at_builtin; refine En.app rfl _ _ rfl rfl HE3.out ((k : Nat) : Int) _ _ rfl hol2 ?_; intro v' w4 H4; rw [<- HN.out] at H4; have HE4 := Lib.hid H4; clear H4)
     go_step3
     exact ⟨rfl, ⟨k + 1, _, _, _, _, _, _, _, _, _, _, _, _, _, _, _, _, _, _, _, _, _, _, _, _, _, _, _, _, _, _, _, _, _, _, _, _, _, _, _, _, _, _, _, _, _, _, _, _, _, _, _, _, _, _, _, _, _, _, _, _, _, _, _, _, _, rfl, by omega, HE4, HD2⟩, by unfold at6; simp [RowKit.intOf]; omega⟩
   ·have hcn := Ns.clo_none hO
    rw [hcn] at CC
    have HD2 : Hid (∀ j, j <= k + 1 -> (Ns.opn ts j).length <= 64) := Lib.hid fun j hj => by
     by_cases e : j = k + 1
     ·subst e
      by_cases hc : Ns.closes ts (Ns.opn ts k) k
      ·rw [Ns.opn_pop hc, List.length_dropLast]; omega
      ·rw [Ns.opn_keep hO hc]; exact hd0
     ·exact HD.out j (by omega)
    by_cases hl0 : 0 < (Ns.opn ts k).length
    ·have hnn : Ns.opn ts k ≠ [] := by intro e; rw [e] at hl0; simp at hl0
     have hTm := Ns.opn_lt (Ns.top_mem hnn)
     have HIF := Lib.hid (shuts_iff hnn)
     obtain ⟨q0, q1, q2⟩ := HP.out (Ns.top (Ns.opn ts k)) (by omega)
     obtain ⟨g, cg, hvg, _, hg1, hgc0⟩ := HE1.out.at_ (by omega)
     have hgc := hgc0 ((Ns.ni (Ns.opn ts k)).length - 1) (by omega)
     have htg := Ns.top_g hl0
     rw [<- hnl] at htg
     rw [htg] at hgc
     have HX : Hid (Ns.closes ts (Ns.opn ts k) k -> Ns.ni (Ns.opn ts (k + 1)) = (Ns.ni (Ns.opn ts k)).take ((Ns.ni (Ns.opn ts k)).length - 1) /\ ((Ns.enZ ts k).set k (-1)).set (Ns.top (Ns.opn ts k)) (k : Int) = Ns.enZ ts (k + 1)) := Lib.hid fun hc => ⟨by rw [Ns.opn_pop hc, Ns.ni_drop, Ns.ni_len], Ns.enZ_pop hlt hc⟩
     have HY : Hid (¬ Ns.closes ts (Ns.opn ts k) k -> Ns.ni (Ns.opn ts (k + 1)) = Ns.ni (Ns.opn ts k) /\ (Ns.enZ ts k).set k (-1) = Ns.enZ ts (k + 1)) := Lib.hid fun hc => ⟨by rw [Ns.opn_keep hO hc], Ns.enZ_keep hlt hO hc⟩
     have CT : Hid (∀ W, Calls Try.prog 82 #[.agg #[.int .i64 (Tk.tk ts k).1, .string (Tk.tk ts k).2.1, .int .i64 (Tk.tk ts k).2.2], .agg #[.int .i64 (Tk.tk ts (Ns.top (Ns.opn ts k))).1, .string (Tk.tk ts (Ns.top (Ns.opn ts k))).2.1, .int .i64 (Tk.tk ts (Ns.top (Ns.opn ts k))).2.2]] W (Bo (decide (Ns.shuts (Tk.tk ts k) (Tk.tk ts (Ns.top (Ns.opn ts k))))) W)) := Lib.hid fun W => ncloses_any _ _ _ _ _ _ W
     have hTz : Ns.top (Ns.opn ts k) < ((Ns.enZ ts k).set k (-1)).length := by rw [List.length_set]; omega
     have hT1 : Ns.top (Ns.opn ts k) < ts.length := by omega
     have hpos : 0 < (Ns.ni (Ns.opn ts k)).length := by omega
     have hol2 : (Ns.ni (Ns.opn ts k)).length <= 20000 := by omega
     injection hvg with hA _ hcg
     subst hA hcg
     clear hgc0 htg hcn hO hl0 hnn hTm HP hol hnl hd0 hzl
     generalize Tk.tk ts (Ns.top (Ns.opn ts k)) = x at *
     generalize Ns.top (Ns.opn ts k) = T at *
     generalize Tk.tk ts k = u at *
     generalize Ns.ni (Ns.opn ts k) = ol at *
     have hsub : IntKind.i64.wrap ((ol.length : Int) - 1) = (ol.length : Int) - 1 := IntWalk.i64_in _ (by omega)
     have hsn : ((ol.length : Int) - 1).toNat = ol.length - 1 := by omega
     have hsb : (0 : Int) <= (ol.length : Int) - 1 := by omega
     have hti : (T : Int) < (ts.length : Int) := by omega
     have hsl : (ol.length : Int) - 1 < (ol.length : Int) := by omega
     have hk0 : (0 : Int) <= (k : Int) := by omega
     have hs1 : (1 : Int) <= (ol.length : Int) := by omega
     have hs2 : 1 <= ol.length := by omega
     have hk1 : (k : Int) < (ts.length : Int) := by omega
     go_upto_region 13 with (go_at_call 81; ((with_reducible refine (CC.out _).mono ?_); rintro e w2 ⟨rfl, b2⟩; have HE2 := Lib.hid (HE1.out.next b2); have r0 := (b2.cell (p := ⟨bb, off + k * 3, none⟩) hbb).trans p0; have s0 := (b2.cell (p := ⟨bb, off + T * 3, none⟩) hbb).trans q0; have r1 := (b2.cell (p := ⟨bb, off + k * 3 + 1, none⟩) hbb).trans p1; have s1 := (b2.cell (p := ⟨bb, off + T * 3 + 1, none⟩) hbb).trans q1; have r2 := (b2.cell (p := ⟨bb, off + k * 3 + 2, none⟩) hbb).trans p2; have s2 := (b2.cell (p := ⟨bb, off + T * 3 + 2, none⟩) hbb).trans q2; have gc := (b2.cell (p := ⟨g, ol.length - 1, none⟩) hg1).trans hgc; have hbb2 := Nat.lt_of_lt_of_le hbb b2.size; have hg2 := Nat.lt_of_lt_of_le hg1 b2.size; clear b2))
     clear p0 p1 p2 q0 q1 q2 hgc hbb hg1
     by_cases hc : Ns.closes ts (Ns.opn ts k) k
     ·have hbt : decide (Ns.shuts u x) = true := decide_eq_true (HIF.out.2 hc)
      have HXX := Lib.hid (HX.out hc)
      rw [hbt] at CT
      clear hbt HX HY HIF hc
      go_region_held3 (fun w' => w'.cell? ⟨bb, off + k * 3, none⟩ = some (.int .i64 u.1) /\ w'.cell? ⟨bb, off + k * 3 + 1, none⟩ = some (.string u.2.1) /\ w'.cell? ⟨bb, off + k * 3 + 2, none⟩ = some (.int .i64 u.2.2) /\ w'.cell? ⟨bb, off + T * 3, none⟩ = some (.int .i64 x.1) /\ w'.cell? ⟨bb, off + T * 3 + 1, none⟩ = some (.string x.2.1) /\ w'.cell? ⟨bb, off + T * 3 + 2, none⟩ = some (.int .i64 x.2.2) /\ w'.cell? ⟨g, ol.length - 1, none⟩ = some (.int .i64 T))
     (first | go_keep | (go_split_ands; exact ⟨(hb1.cell (p := ⟨bb, off + k * 3, none⟩) hbb2).trans (by assumption), (hb1.cell (p := ⟨bb, off + k * 3 + 1, none⟩) hbb2).trans (by assumption), (hb1.cell (p := ⟨bb, off + k * 3 + 2, none⟩) hbb2).trans (by assumption), (hb1.cell (p := ⟨bb, off + T * 3, none⟩) hbb2).trans (by assumption), (hb1.cell (p := ⟨bb, off + T * 3 + 1, none⟩) hbb2).trans (by assumption), (hb1.cell (p := ⟨bb, off + T * 3 + 2, none⟩) hbb2).trans (by assumption), (hb1.cell (p := ⟨g, ol.length - 1, none⟩) hg2).trans (by assumption)⟩))
     (first | (go_at_call 82; refine (CT.out _).mono ?_; rintro e w3 ⟨rfl, hb1⟩))
      have HE3 := Lib.hid (HE2.out.next ((Below.refl _ _).drew.trans hb1))
      have gc3 := (hb1.cell (p := ⟨g, ol.length - 1, none⟩) hg2).trans gc
      clear hb1 r0 r1 r2 s0 s1 s2 gc
      go_upto_region 14 with fail
      have c5 := HE3.out.cell hTz
      have z5 := HE3.out.free T
      obtain ⟨W4, hW4⟩ : ∃ W4, W4 = w3.setCell ⟨w.heap.size, T, none⟩ (.int .i64 k) := ⟨_, rfl⟩
      have HE4 : Hid (En (w.heap.size + 1) w.heap.size w (Ns.enZ ts (k + 1)) (.slice (some ⟨g, 0, none⟩) ol.length cv) ol W4) := Lib.hid (by rw [hW4, <- HXX.out.2]; exact HE3.out.set_ T _)
      have HW4 := Lib.hid hW4.symm
      clear hW4
      go_upto_region 15 with fail
      rw [HW4.out]
      clear HW4 c5 z5
      go_wp2_with fail
      go_step3
      have HE5 : Hid (En (w.heap.size + 1) w.heap.size w (Ns.enZ ts (k + 1)) (.slice (some ⟨g, 0, none⟩) (ol.length - 1) cv) (Ns.ni (Ns.opn ts (k + 1))) W4) := Lib.hid (by rw [HXX.out.1]; exact HE4.out.cut rfl (Nat.sub_le _ _))
      exact ⟨rfl, ⟨k + 1, _, _, _, _, _, _, _, _, _, _, _, _, _, _, _, _, _, _, _, _, _, _, _, _, _, _, _, _, _, _, _, _, _, _, _, _, _, _, _, _, _, _, _, _, _, _, _, _, _, _, _, _, _, _, _, _, _, _, _, _, _, _, _, _, _, rfl, by omega, HE5, HD2⟩, by unfold at6; simp [RowKit.intOf]; omega⟩
     ·have hbt : decide (Ns.shuts u x) = false := decide_eq_false (fun c => hc (HIF.out.1 c))
      have HYY := Lib.hid (HY.out hc)
      rw [hbt] at CT
      clear hbt HX HY HIF hc
      go_region_held3 (fun w' => w'.cell? ⟨bb, off + k * 3, none⟩ = some (.int .i64 u.1) /\ w'.cell? ⟨bb, off + k * 3 + 1, none⟩ = some (.string u.2.1) /\ w'.cell? ⟨bb, off + k * 3 + 2, none⟩ = some (.int .i64 u.2.2) /\ w'.cell? ⟨bb, off + T * 3, none⟩ = some (.int .i64 x.1) /\ w'.cell? ⟨bb, off + T * 3 + 1, none⟩ = some (.string x.2.1) /\ w'.cell? ⟨bb, off + T * 3 + 2, none⟩ = some (.int .i64 x.2.2) /\ w'.cell? ⟨g, ol.length - 1, none⟩ = some (.int .i64 T))
     (first | go_keep | (go_split_ands; exact ⟨(hb1.cell (p := ⟨bb, off + k * 3, none⟩) hbb2).trans (by assumption), (hb1.cell (p := ⟨bb, off + k * 3 + 1, none⟩) hbb2).trans (by assumption), (hb1.cell (p := ⟨bb, off + k * 3 + 2, none⟩) hbb2).trans (by assumption), (hb1.cell (p := ⟨bb, off + T * 3, none⟩) hbb2).trans (by assumption), (hb1.cell (p := ⟨bb, off + T * 3 + 1, none⟩) hbb2).trans (by assumption), (hb1.cell (p := ⟨bb, off + T * 3 + 2, none⟩) hbb2).trans (by assumption), (hb1.cell (p := ⟨g, ol.length - 1, none⟩) hg2).trans (by assumption)⟩))
     (first | (go_at_call 82; refine (CT.out _).mono ?_; rintro e w3 ⟨rfl, hb1⟩))
      have HE3 : Hid (En (w.heap.size + 1) w.heap.size w (Ns.enZ ts (k + 1)) (.slice (some ⟨g, 0, none⟩) ol.length cv) (Ns.ni (Ns.opn ts (k + 1))) w3) := Lib.hid (by rw [HYY.out.1, <- HYY.out.2]; exact HE2.out.next ((Below.refl _ _).drew.trans hb1))
      clear hb1 r0 r1 r2 s0 s1 s2 gc
      go_wp2_with fail
      go_step3
      exact ⟨rfl, ⟨k + 1, _, _, _, _, _, _, _, _, _, _, _, _, _, _, _, _, _, _, _, _, _, _, _, _, _, _, _, _, _, _, _, _, _, _, _, _, _, _, _, _, _, _, _, _, _, _, _, _, _, _, _, _, _, _, _, _, _, _, _, _, _, _, _, _, _, rfl, by omega, HE3, HD2⟩, by unfold at6; simp [RowKit.intOf]; omega⟩
    ·have hcc : ¬ Ns.closes ts (Ns.opn ts k) k := fun h => h.2.1 (List.eq_nil_of_length_eq_zero (by omega))
     have HN : Hid (Ns.ni (Ns.opn ts (k + 1)) = Ns.ni (Ns.opn ts k)) := Lib.hid (by rw [Ns.opn_keep hO hcc])
     have HZ := Lib.hid (Ns.enZ_keep hlt hO hcc)
     have hni : Ns.ni (Ns.opn ts k) = [] := List.eq_nil_of_length_eq_zero (by omega)
     clear hcn hO hcc HP hol hnl hd0 hl0
     generalize Tk.tk ts k = u at *
     generalize Ns.ni (Ns.opn ts k) = ol at *
     subst hni
     simp only [List.length_nil]
     go_upto_region 13 with (go_at_call 81; ((with_reducible refine (CC.out _).mono ?_); rintro e w2 ⟨rfl, b2⟩; have HE2 := Lib.hid (HE1.out.next b2); clear b2))
     go_quiet (fail)
     go_wp2_with fail
     go_step3
     have HE3 : Hid (En (w.heap.size + 1) w.heap.size w (Ns.enZ ts (k + 1)) (.slice Av 0 cv) (Ns.ni (Ns.opn ts (k + 1))) (w2.drewN nq)) := Lib.hid (by rw [HN.out, <- HZ.out]; exact HE2.out.drewN _)
     exact ⟨rfl, ⟨k + 1, _, _, _, _, _, _, _, _, _, _, _, _, _, _, _, _, _, _, _, _, _, _, _, _, _, _, _, _, _, _, _, _, _, _, _, _, _, _, _, _, _, _, _, _, _, _, _, _, _, _, _, _, _, _, _, _, _, _, _, _, _, _, _, _, _, rfl, by omega, HE3, HD2⟩, by unfold at6; simp [RowKit.intOf]; omega⟩
  ·obtain rfl : k = ts.length := by omega
   have HF := Lib.hid (HE.out.told (Ns.enZ_len hk) (by omega))
   have HB := Lib.hid HE.out.bel
   have HZ := Lib.hid (Ns.enZ_end ts)
   go_wp2_with fail
   simp only [Exit.jump]
   go_ret2
   exact ⟨fun _ => ⟨_, rfl, by have := HF.out; rw [HZ.out] at this; exact this, HB.out⟩, fun ⟨j, h1, h2⟩ => by have := HD.out (j + 1) (by omega); omega⟩
namespace Ns
open Tk
def isK (ts : List Tok) (kd : Int) (p : Nat) : Bool := decide ((tk ts p).1 = kd)
theorem drop_at {pl : List Nat} {k : Nat} (h : k < pl.length) : pl.drop k = pl.getD k 0 :: pl.drop (k + 1) := by
 rw [List.drop_eq_getElem_cons h, List.getD_eq_getElem?_getD, List.getElem?_eq_getElem h]; rfl
theorem at_mem {pl : List Nat} {k : Nat} (h : k < pl.length) : pl.getD k 0 ∈ pl := by
 rw [List.getD_eq_getElem?_getD, List.getElem?_eq_getElem h]; exact List.getElem_mem h
end Ns
def Nu (n : Int) (w : World) (e : Ending) (w' : World) : Prop := e = .returned (.int .i64 n) /\ Below w.heap.size w w'
def Tw (a b : Int) (w : World) (e : Ending) (w' : World) : Prop := e = .returned (.tuple #[.int .i64 a, .int .i64 b]) /\ Below w.heap.size w w'
end Go.Proofs.Ytaofkaehhikfaaa
namespace Go.Proofs.Ytaofkaehhikfaaa
open Go.RowKit Vl
namespace Vl
structure Rw (w : World) (g : Nat) (us : List Tk.Tok) : Prop where
 cell : ∀ j, j < us.length -> w.cell? ⟨g, j * 3, none⟩ = some (.int .i64 (Tk.tk us j).1) /\ w.cell? ⟨g, j * 3 + 1, none⟩ = some (.string (Tk.tk us j).2.1) /\ w.cell? ⟨g, j * 3 + 2, none⟩ = some (.int .i64 (Tk.tk us j).2.2)
 free : ∀ o, w.frozen? ⟨g, o, none⟩ = false
theorem Rw.kept {w w1 : World} {g : Nat} {us : List Tk.Tok} (h : Rw w g us) (hk : w1.heap[g]? = w.heap[g]?) : Rw w1 g us := by
 refine ⟨fun j hj => ?_, fun o => ?_⟩
 ·obtain ⟨h0, h1, h2⟩ := h.cell j hj
  exact ⟨(World.cell?_of_block (a := ⟨g, _, none⟩) hk).trans h0, (World.cell?_of_block (a := ⟨g, _, none⟩) hk).trans h1, (World.cell?_of_block (a := ⟨g, _, none⟩) hk).trans h2⟩
 ·have := h.free o
  unfold World.frozen? at this ⊢
  simp only at this ⊢
  rw [hk]; exact this
theorem Rw.below {w w1 : World} {g : Nat} {us : List Tk.Tok} (h : Rw w g us) (hg : g < w.heap.size) (hb : Below w.heap.size w w1) : Rw w1 g us := h.kept (hb.block g hg)
theorem Rw.of_ow {E : TypeId} {w0 wr : World} {g n cap : Nat} {us : List Tk.Tok} (h : Ow E 3 w0 (.slice (some ⟨g, 0, none⟩) n cap) n (Tk.cells us) wr) : Rw wr g us := by
 refine ⟨fun j hj => ?_, fun o => h.own.frozenAt o⟩
 obtain ⟨h0, h1, h2⟩ := Tk.cells_at us j hj
 exact ⟨h.cells h0, h.cells h1, h.cells h2⟩
theorem Rw.ts {w : World} {g : Nat} {us : List Tk.Tok} (h : Rw w g us) (hg : g < w.heap.size) : Ts w w.heap.size (some ⟨g, 0, none⟩) us := fun _ => ⟨g, 0, rfl, hg, fun j hj => by
 obtain ⟨h0, h1, h2⟩ := h.cell j hj
 rw [Nat.zero_add]
 exact ⟨h0, h1, h2⟩⟩
theorem Rw.set {w : World} {g : Nat} {us : List Tk.Tok} (h : Rw w g us) {i : Nat} (hi : i < us.length) (t : Tk.Tok) :
 Rw (((w.setCell ⟨g, i * 3, none⟩ (.int .i64 t.1)).setCell ⟨g, i * 3 + 1, none⟩ (.string t.2.1)).setCell ⟨g, i * 3 + 2, none⟩ (.int .i64 t.2.2)) g (us.set i t) := by
 have htk : ∀ j, j < us.length -> Tk.tk (us.set i t) j = if j = i then t else Tk.tk us j := fun j hj => by
  rw [Tk.tk_eq (by simpa using hj), List.getElem_set, Tk.tk_eq hj]
  by_cases e : j = i
  ·rw [if_pos e.symm, if_pos e]
  ·rw [if_neg (fun c => e c.symm), if_neg e]
 obtain ⟨h0, h1, h2⟩ := h.cell i hi
 refine ⟨fun j hj => ?_, fun o => ?_⟩
 ·rw [List.length_set] at hj
  rw [htk j hj]
  by_cases e : j = i
  ·subst e
   rw [if_pos rfl]
   refine ⟨?_, ?_, ?_⟩ <;> simp [go_sem, h0, h1, h2]
  ·rw [if_neg e]
   obtain ⟨k0, k1, k2⟩ := h.cell j hj
   have far : ∀ (W : World) (a b : Nat) (v : Value), a ≠ b -> (W.setCell ⟨g, a, none⟩ v).cell? ⟨g, b, none⟩ = W.cell? ⟨g, b, none⟩ := fun W a b v hab => World.cell?_setCell_other W _ _ v (fun e => by injection e with _ e; exact hab e)
   refine ⟨?_, ?_, ?_⟩
   ·rw [far _ _ _ _ (by omega), far _ _ _ _ (by omega), far _ _ _ _ (by omega)]; exact k0
   ·rw [far _ _ _ _ (by omega), far _ _ _ _ (by omega), far _ _ _ _ (by omega)]; exact k1
   ·rw [far _ _ _ _ (by omega), far _ _ _ _ (by omega), far _ _ _ _ (by omega)]; exact k2
 ·have := h.free o
  simpa [go_sem] using this
theorem F_snoc (l : List Tk.Tok) (t : Tk.Tok) : F (l ++ [t]) = if t.1 = 1 then F l else F l ++ [t] := by
 rw [F_app]
 by_cases h : t.1 = 1
 ·rw [if_pos h, F_sp h]; show F l ++ [] = F l; simp
 ·rw [if_neg h, F_on h]; rfl
theorem take_set_len {us : List Tk.Tok} {i : Nat} (t : Tk.Tok) (h : i < us.length) : (us.set i t).take (i + 1) = us.take i ++ [t] := by
 rw [List.take_succ_eq_append_getElem (by simpa using h), List.take_set_of_le (Nat.le_refl i), List.getElem_set_self]
end Vl
theorem cisp_any (u : Tk.Tok) (w : World) :
 Calls Try.prog 61 #[.agg #[.int .i64 u.1, .string u.2.1, .int .i64 u.2.2]] w (Bo (decide (u.1 = 1)) w) := by
 obtain ⟨W0, hW⟩ : ∃ W0, W0 = w.alloc (.cells #[.int .i64 u.1, .string u.2.1, .int .i64 u.2.2] 36) := ⟨_, rfl⟩
 have hb0 : Below w.heap.size w W0 := by rw [hW]; exact (Below.refl _ _).alloc (Nat.le_refl _) _
 have k0 : W0.heap[w.heap.size]? = some (.cells #[.int .i64 u.1, .string u.2.1, .int .i64 u.2.2] 36 (0, 0)) := by rw [hW]; exact heap_alloc_new w _
 obtain ⟨p0, p1, p2⟩ := tok3_cells k0
 have HB0 := Lib.hid hb0
 have HW := Lib.hid hW.symm
 clear hb0 k0 hW
 by_cases hk : u.1 = 1
 ·have HV : Hid (decide (u.1 = 1) = true) := Lib.hid (decide_eq_true hk)
  rw [hk] at p0
  clear hk
  go_enter Try.func61, Try.ntmps61
  go_upto_region 1 with fail
  rw [HW.out]
  clear HW
  go_wp2_with fail
  go_ret
  exact ⟨by rw [HV.out]; rfl, HB0.out⟩
 ·have HV : Hid (decide (u.1 = 1) = false) := Lib.hid (decide_eq_false hk)
  have e : (u.1 == 1) = false := beq_false_of_ne hk
  clear hk
  go_enter Try.func61, Try.ntmps61
  go_upto_region 1 with fail
  rw [HW.out]
  clear HW
  go_wp2_with fail
  go_ret
  exact ⟨by rw [HV.out]; rfl, HB0.out⟩
def ClIs (ts : List Tk.Tok) (w : World) (e : Ending) (w' : World) : Prop := ∃ v, e = .returned v /\ Ow 36 3 w v ts.length (Tk.cells ts) w'
theorem cclone_any (ts : List Tk.Tok) (hm : ts.length <= 1000) (A : Option Addr) (cap : Nat) (w : World) (h : Ts w w.heap.size A ts) :
 Calls Try.prog 60 #[.slice A ts.length cap] w (ClIs ts w) := by
 have hq := fun W => Lib.run_eql_slice_nil (P := Try.prog) W 22 36 A ts.length cap 0 0 Try.underlying22
 cases A with
 | none =>
   have hn : ts = [] := by
    cases ts with
    | nil => rfl
    | cons t ts =>
      obtain ⟨b, off, e, _⟩ := h (by simp)
      cases e
   subst hn
   clear h hq
   have hq := fun W => Lib.run_eql_slice_nil (P := Try.prog) W 22 36 none 0 cap 0 0 Try.underlying22
   go_enter Try.func60, Try.ntmps60
   go_wp2_with fail
   go_ret
   exact ⟨_, rfl, Ow.start _ _ (Below.refl _ _)⟩
 | some a =>
   have HR := Lib.hid (Rdc.of_ts h)
   have HO := Lib.hid (ow_empty w 36 3)
   obtain ⟨i0, hi, hz0, hz1, hz2⟩ := info_parts Try.infoTok
   clear h
   have HR2 : Hid (Rdc (w.alloc (.cells #[] 36)) (some a) ts.length 3 (Tk.cells ts)) := Lib.hid (by
    refine ⟨HR.out.1, fun h0 => ?_⟩
    obtain ⟨b, off, e, hc⟩ := HR.out.2 h0
    exact ⟨b, off, e, fun j u hu => Lib.cell?_alloc_some _ (hc j u hu)⟩)
   go_enter Try.func60, Try.ntmps60
   go_wp2_with (at_builtin; refine app_all rfl _ _ 22 rfl i0 _ 32 Try.underlying22 hi hz0 hz1 hz2 rfl (by decide) rfl HO.out (some a) ts.length cap (Tk.cells ts) rfl HR2.out (cells_ok ts) (by unfold maxLen; omega) (by omega) ?_; intro v' w3 H3; have HO3 := Lib.hid H3; clear H3)
   go_ret
   have h3 := HO3.out
   rw [Nat.zero_add, List.nil_append] at h3
   exact ⟨_, rfl, h3⟩
end Go.Proofs.Ytaofkaehhikfaaa
namespace Go.Proofs.Ytaofkaehhikfaaa
open Go.RowKit Vl
abbrev isSpF : Value := .func (Fn.func 61) #[] #[]
def IxIs (ts : List Tk.Tok) (w : World) (e : Ending) (w' : World) : Prop :=
 ∃ n : Int, e = .returned (.int .i64 n) /\ Below w.heap.size w w' /\ ((n = -1 /\ F ts = ts) ∨ ∃ k : Nat, n = k /\ k < ts.length /\ (Tk.tk ts k).1 = 1 /\ F (ts.take k) = ts.take k)
theorem cindex_any (ts : List Tk.Tok) (hm : ts.length <= 1000) (A : Option Addr) (cap : Nat) (w : World) (h : Ts w w.heap.size A ts) :
 Calls Try.prog 80 #[.slice A ts.length cap, isSpF] w (IxIs ts w) := by
 have H := Lib.hid h
 clear h
 go_enter Try.func80, Try.ntmps80
 go_wp2_with fail
 go_loopw [8] (fun v8 wr => ∃ k : Nat, k <= ts.length /\ v8 = .int .i64 k /\ Hid (F (ts.take k) = ts.take k) /\ Hid (Below w.heap.size w wr)) (fun v8 _ => ts.length - (RowKit.intOf v8).toNat)
 case atStart => exact ⟨0, Nat.zero_le _, rfl, Lib.hid rfl, Lib.hid (Below.refl _ _)⟩
 case round =>
  obtain ⟨k, hk, rfl, HF, HB⟩ := hrel
  by_cases hlt : k < ts.length
  ·obtain ⟨b, off, rfl, hb, hp⟩ := H.out.next HB.out (by omega)
   obtain ⟨q0, q1, q2⟩ := hp k hlt
   have HTK : Hid (ts.take (k + 1) = ts.take k ++ [Tk.tk ts k]) := Lib.hid (by rw [List.take_succ_eq_append_getElem hlt, Tk.tk_eq hlt])
   have CS : Hid (∀ W, Calls Try.prog 61 #[.agg #[.int .i64 (Tk.tk ts k).1, .string (Tk.tk ts k).2.1, .int .i64 (Tk.tk ts k).2.2]] W (Bo (decide ((Tk.tk ts k).1 = 1)) W)) := Lib.hid fun W => cisp_any (Tk.tk ts k) W
   clear hp
   by_cases h1 : (Tk.tk ts k).1 = 1
   ·have HV : Hid ((Tk.tk ts k).1 = 1) := Lib.hid h1
    rw [decide_eq_true h1] at CS
    clear h1 HTK
    generalize hu : Tk.tk ts k = u at q0 q1 q2 CS
    have HU := Lib.hid hu
    clear hu
    go_wp2_with (go_at_call 61; ((with_reducible refine (CS.out _).mono ?_); rintro e w2 ⟨rfl, b2⟩; have HB2 := Lib.hid (below_next HB.out b2); clear b2))
    go_ret
    exact ⟨k, rfl, HB2.out, .inr ⟨k, rfl, hlt, HV.out, HF.out⟩⟩
   ·have HN : Hid (F (ts.take (k + 1)) = ts.take (k + 1)) := Lib.hid (by rw [HTK.out, F_snoc, if_neg h1, HF.out])
    rw [decide_eq_false h1] at CS
    clear h1 HTK
    generalize Tk.tk ts k = u at *
    go_wp2_with (go_at_call 61; ((with_reducible refine (CS.out _).mono ?_); rintro e w2 ⟨rfl, b2⟩; have HB2 := Lib.hid (below_next HB.out b2); clear b2))
    go_roundw
    case rel => exact ⟨k + 1, by omega, by go_num, HN, HB2⟩
    case measure => simp [RowKit.intOf]; omega
  ·obtain rfl : k = ts.length := by omega
   go_wp2_with fail
   go_ret
   have := HF.out
   rw [List.take_length] at this
   exact ⟨-1, rfl, HB.out, .inl ⟨rfl, this⟩⟩
def DelIs (B g : Nat) (ts : List Tk.Tok) (w : World) (e : Ending) (w' : World) : Prop :=
 ∃ cap, e = .returned (.slice (some ⟨g, 0, none⟩) (F ts).length cap) /\ (F ts).length <= cap /\ Rw w' g (F ts) /\ w.heap.size <= w'.heap.size /\ ∀ a : World, Below B a w -> Below B a w'
theorem take_lt {ts : List Tk.Tok} {k : Nat} (hlt : k < ts.length) (h1 : (Tk.tk ts k).1 = 1) (hF : F (ts.take k) = ts.take k) : F (ts.take (k + 1)) = ts.take k /\ (F (ts.take (k + 1))).length = k := by
 have e : F (ts.take (k + 1)) = ts.take k := by rw [List.take_succ_eq_append_getElem hlt, F_snoc, if_pos (by rw [Tk.tk_eq hlt] at h1; exact h1), hF]
 exact ⟨e, by rw [e, List.length_take]; omega⟩
theorem zero_tok (w : World) : (zeroValue 36).run Try.prog w = .ok zTok w := by kernel_rfl
theorem setCells_size (b : Nat) : ∀ (vs : List Value) (o : Nat) (w : World), (w.setCells b o vs).heap.size = w.heap.size
 | [], _, _ => rfl
 | v :: vs, o, w => by
   rw [World.setCells, setCells_size b vs]
   simp [World.setCell]
theorem below_setCells_own {B b : Nat} {a : World} (hb : B <= b) : ∀ (vs : List Value) (o : Nat) (w : World), Below B a w -> Below B a (w.setCells b o vs)
 | [], _, _, h => h
 | v :: vs, o, w, h => by
   rw [World.setCells]
   exact below_setCells_own hb vs (o + 1) _ (h.setCell (p := ⟨b, o, none⟩) hb v)
theorem run_clear_toks (w : World) (ty : TypeId) (g o n c : Nat) (hn : 0 < n) (hc : ∀ j, j < n * 3 -> (w.cell? ⟨g, o + j, none⟩).isSome = true) (hf : ∀ j, j < n * 3 -> w.frozen? ⟨g, o + j, none⟩ = false) :
 (Builtin.clear_ #[22] ty #[.slice (some ⟨g, o, none⟩) n c]).run Try.prog w = .ok (.tuple #[]) (w.setCells g o (Builtin.zeroCells zTok.cells n).toList) := by
 have hl : (Builtin.zeroCells zTok.cells n).toList.length = n * 3 := by simp [Builtin.zeroCells, Value.cells]
 have h1 : ∀ v ∈ (Builtin.zeroCells zTok.cells n).toList, v.oneCell' = true := fun v hv => by
  simp only [Builtin.zeroCells, Array.mem_toList_iff, Array.mem_map] at hv
  obtain ⟨i, _, rfl⟩ := hv
  have : i % 3 = 0 ∨ i % 3 = 1 ∨ i % 3 = 2 := by omega
  rcases this with q | q | q <;> simp [Value.cells, q, Value.oneCell']
 have hst := run_storeCells_cells (P := Try.prog) g o (Builtin.zeroCells zTok.cells n).toList 0 w (by rw [hl]; simpa using hc) (by rw [hl]; simpa using hf) h1
 simp only [Nat.add_zero] at hst
 obtain ⟨m, rfl⟩ : ∃ m, n = m + 1 := ⟨n - 1, by omega⟩
 simp [Builtin.clear_, run_underlying Try.underlying22, hst]
theorem cdelete_any (ts : List Tk.Tok) (hm : ts.length <= 1000) (B g cap : Nat) (hcap : ts.length <= cap) (w : World) (hB : B <= g) (hg : g < w.heap.size) (h : Rw w g ts) :
 Calls Try.prog 59 #[.slice (some ⟨g, 0, none⟩) ts.length cap, isSpF] w (DelIs B g ts w) := by
 have CX : Hid (Calls Try.prog 80 #[.slice (some ⟨g, 0, none⟩) ts.length cap, isSpF] w (IxIs ts w)) := Lib.hid (cindex_any ts hm _ cap w (h.ts hg))
 have HR := Lib.hid h
 clear h
 go_enter Try.func59, Try.ntmps59
 go_upto_region 2 with (go_at_call 80; ((with_reducible refine (CX.out).mono ?_); rintro e w1 ⟨n, rfl, b1, hx⟩; have HB1 := Lib.hid b1; have HX := Lib.hid hx; clear b1 hx))
 clear CX
 have hg1 : g < w1.heap.size := Nat.lt_of_lt_of_le hg HB1.out.size
 have HR1 := Lib.hid (HR.out.below hg HB1.out)
 rcases HX.out with ⟨rfl, hF⟩ | ⟨k, rfl, hk, h1, hF⟩
 ·have HF := Lib.hid hF
  clear HX hF
  go_wp2_with fail
  go_ret
  refine ⟨cap, by rw [HF.out]; rfl, by rw [HF.out]; exact hcap, by rw [HF.out]; exact HR1.out, HB1.out.size, fun a ha => ha.trans (HB1.out.mono (by omega))⟩
 ·have en : ((k : Int) == -1) = false := beq_false_of_ne (by omega)
  have HT := Lib.hid (take_lt hk h1 hF)
  clear HX h1 hF
  go_wp2_with fail
  go_loopw [5, 6, 7] (fun v5 v6 v7 wr => ∃ (j : Nat) (us : List Tk.Tok), j <= ts.length /\ v6 = .int .i64 j /\ v5 = .int .i64 ((F (ts.take j)).length : Nat) /\ (F (ts.take j)).length < j /\ us.length = ts.length /\ Hid (us.take (F (ts.take j)).length = F (ts.take j)) /\ Hid (us.drop j = ts.drop j) /\ Hid (Rw wr g us) /\ w1.heap.size <= wr.heap.size /\ Hid (∀ a : World, Below B a w1 -> Below B a wr)) (fun _ v6 _ _ => ts.length - (RowKit.intOf v6).toNat)
  case atStart =>
   refine ⟨k + 1, ts, hk, by go_num, by rw [HT.out.2], by rw [HT.out.2]; omega, rfl, Lib.hid ?_, Lib.hid rfl, HR1, Nat.le_refl _, Lib.hid fun a ha => ha⟩
   rw [HT.out.2, HT.out.1]
  case round =>
   obtain ⟨j, us, hj, rfl, rfl, hij, hul, HU, HD, HRr, hsz, HBr⟩ := hrel
   by_cases hlt : j < ts.length
   ·have htj : Tk.tk us j = Tk.tk ts j := by
     have h0 := HD.out
     rw [List.drop_eq_getElem_cons (by omega), List.drop_eq_getElem_cons hlt] at h0
     rw [Tk.tk_eq (by omega), Tk.tk_eq hlt]
     injection h0
    have HDN : Hid (us.drop (j + 1) = ts.drop (j + 1)) := Lib.hid (by
     have := congrArg List.tail HD.out
     simpa using this)
    obtain ⟨q0, q1, q2⟩ := HRr.out.cell j (by omega)
    rw [htj] at q0 q1 q2
    have HFN : Hid (F (ts.take (j + 1)) = if (Tk.tk ts j).1 = 1 then F (ts.take j) else F (ts.take j) ++ [Tk.tk ts j]) := Lib.hid (by rw [List.take_succ_eq_append_getElem hlt, F_snoc, Tk.tk_eq hlt])
    have CS : Hid (∀ W, Calls Try.prog 61 #[.agg #[.int .i64 (Tk.tk ts j).1, .string (Tk.tk ts j).2.1, .int .i64 (Tk.tk ts j).2.2]] W (Bo (decide ((Tk.tk ts j).1 = 1)) W)) := Lib.hid fun W => cisp_any (Tk.tk ts j) W
    have hgr : g < wr.heap.size := by omega
    clear htj HD
    by_cases h1 : (Tk.tk ts j).1 = 1
    ·rw [if_pos h1] at HFN
     rw [decide_eq_true h1] at CS
     clear h1
     generalize Tk.tk ts j = u at *
     obtain ⟨kd, tx, num⟩ := u
     simp only at q0 q1 q2 CS
     go_upto_region 8 with fail
     have k3 := heap_alloc_new wr (.cells #[.int .i64 kd, .string tx, .int .i64 num] 36)
     have b3 := (Below.refl wr.heap.size wr).alloc (Nat.le_refl _) (.cells #[.int .i64 kd, .string tx, .int .i64 num] 36)
     generalize wr.alloc (.cells #[.int .i64 kd, .string tx, .int .i64 num] 36) = w3 at k3 b3 ⊢
     obtain ⟨y0, y1, y2⟩ := tok3_cells k3
     have HB3 := Lib.hid b3
     clear k3 b3 q0 q1 q2
     go_wp2_with (go_at_call 61; ((with_reducible refine (CS.out _).mono ?_); rintro e w4 ⟨rfl, b4⟩; have HB4 := Lib.hid (below_next HB3.out b4); clear b4))
     go_roundw
     case rel => exact ⟨j + 1, us, by omega, by go_num, by rw [HFN.out], by rw [HFN.out]; omega, hul, by rw [HFN.out]; exact HU, HDN, Lib.hid (HRr.out.below hgr HB4.out), Nat.le_trans hsz HB4.out.size, Lib.hid fun a ha => (HBr.out a ha).trans (HB4.out.mono (by omega))⟩
     case measure => simp [RowKit.intOf]; omega
    ·rw [if_neg h1] at HFN
     rw [decide_eq_false h1] at CS
     have HFL : Hid ((F (ts.take (j + 1))).length = (F (ts.take j)).length + 1) := Lib.hid (by rw [HFN.out]; simp)
     clear h1
     generalize hu : Tk.tk ts j = u at *
     clear hu
     generalize hi : (F (ts.take j)).length = i at *
     have HI := Lib.hid hi
     clear hi
     have hiu : i < us.length := by omega
     obtain ⟨kd, tx, num⟩ := u
     simp only at q0 q1 q2 CS
     go_upto_region 8 with fail
     have k3 := heap_alloc_new wr (.cells #[.int .i64 kd, .string tx, .int .i64 num] 36)
     have b3 := (Below.refl wr.heap.size wr).alloc (Nat.le_refl _) (.cells #[.int .i64 kd, .string tx, .int .i64 num] 36)
     generalize wr.alloc (.cells #[.int .i64 kd, .string tx, .int .i64 num] 36) = w3 at k3 b3 ⊢
     obtain ⟨y0, y1, y2⟩ := tok3_cells k3
     have HB3 := Lib.hid b3
     have hg3 : wr.heap.size < w3.heap.size := (Array.getElem?_eq_some_iff.1 k3).1
     clear k3 b3 q0 q1 q2
     go_upto_region 9 with (go_at_call 61; ((with_reducible refine (CS.out _).mono ?_); rintro e w4 ⟨rfl, b4⟩; have HB4 := Lib.hid (below_next HB3.out b4); have z0 := (b4.cell (p := ⟨wr.heap.size, 0, none⟩) hg3).trans y0; have z1 := (b4.cell (p := ⟨wr.heap.size, 1, none⟩) hg3).trans y1; have z2 := (b4.cell (p := ⟨wr.heap.size, 2, none⟩) hg3).trans y2; clear b4))
     have HR4 := Lib.hid (HRr.out.below hgr HB4.out)
     obtain ⟨x0, x1, x2⟩ := HR4.out.cell i hiu
     have xf := HR4.out.free
     go_upto_region 10 with fail
     have r5 := HR4.out.set hiu (kd, tx, num)
     have b5 : ∀ a : World, Below B a w1 -> Below B a (((w4.setCell ⟨g, i * 3, none⟩ (.int .i64 kd)).setCell ⟨g, i * 3 + 1, none⟩ (.string tx)).setCell ⟨g, i * 3 + 2, none⟩ (.int .i64 num)) := fun a ha => ((((HBr.out a ha).trans (HB4.out.mono (by omega))).setCell (p := ⟨g, i * 3, none⟩) hB _).setCell (p := ⟨g, i * 3 + 1, none⟩) hB _).setCell (p := ⟨g, i * 3 + 2, none⟩) hB _
     have s5 : w1.heap.size <= (((w4.setCell ⟨g, i * 3, none⟩ (.int .i64 kd)).setCell ⟨g, i * 3 + 1, none⟩ (.string tx)).setCell ⟨g, i * 3 + 2, none⟩ (.int .i64 num)).heap.size := by have := HB4.out.size; simp [World.setCell]; omega
     generalize (((w4.setCell ⟨g, i * 3, none⟩ (.int .i64 kd)).setCell ⟨g, i * 3 + 1, none⟩ (.string tx)).setCell ⟨g, i * 3 + 2, none⟩ (.int .i64 num)) = w5 at r5 b5 s5 ⊢
     have HR5 := Lib.hid r5
     have HB5 := Lib.hid b5
     clear x0 x1 x2 xf r5 b5
     go_wp2_with fail
     go_roundw
     case rel => exact ⟨j + 1, us.set i (kd, tx, num), by omega, by go_num, (by rw [HFL.out]; go_num), (by rw [HFL.out]; omega), (by rw [List.length_set]; exact hul), Lib.hid (by rw [HFL.out, take_set_len _ hiu, HU.out, HFN.out]), Lib.hid (by rw [List.drop_set_of_lt (by omega)]; exact HDN.out), HR5, s5, HB5⟩
     case measure => simp [RowKit.intOf]; omega
   ·obtain rfl : j = ts.length := by omega
    have HU2 := HU.out
    rw [List.take_length] at HU2 hij
    have HU3 := Lib.hid HU2
    have HL : Hid (F (ts.take ts.length) = F ts) := Lib.hid (by rw [List.take_length])
    rw [HL.out]
    generalize hi : (F ts).length = i at *
    have HI := Lib.hid hi
    clear hi HU HD HU2
    have hcl := fun ty => run_clear_toks wr ty g (i * 3) (ts.length - i) (cap - i) (by omega) (fun o ho => by
     obtain ⟨h0, h1, h2⟩ := HRr.out.cell (i + o / 3) (by omega)
     rcases (show i * 3 + o = (i + o / 3) * 3 ∨ i * 3 + o = (i + o / 3) * 3 + 1 ∨ i * 3 + o = (i + o / 3) * 3 + 2 by omega) with q | q | q
     ·rw [q, h0]; rfl
     ·rw [q, h1]; rfl
     ·rw [q, h2]; rfl) (fun o _ => HRr.out.free _)
    go_wp2_with fail
    go_ret
    have hR : Rw (wr.setCells g (i * 3) (Builtin.zeroCells zTok.cells (ts.length - i)).toList) g (F ts) := by
     refine ⟨fun j hj => ?_, fun o => ?_⟩
     ·have hj2 : j < i := by rw [<- HI.out]; exact hj
      obtain ⟨h0, h1, h2⟩ := HRr.out.cell j (by omega)
      have htk : Tk.tk us j = Tk.tk (F ts) j := by
       rw [<- HU3.out]
       unfold Tk.tk
       rw [List.getD_eq_getElem?_getD, List.getD_eq_getElem?_getD, List.getElem?_take_of_lt hj2]
      rw [htk] at h0 h1 h2
      have far : ∀ o, o < i * 3 -> (wr.setCells g (i * 3) (Builtin.zeroCells zTok.cells (ts.length - i)).toList).cell? ⟨g, o, none⟩ = wr.cell? ⟨g, o, none⟩ := fun o ho => World.cell?_setCells_out g _ _ _ _ (fun _ _ => .inl ho)
      exact ⟨(far _ (by omega)).trans h0, (far _ (by omega)).trans h1, (far _ (by omega)).trans h2⟩
     ·exact (World.frozen?_setCells g _ _ _ _).trans (HRr.out.free o)
    refine ⟨cap, by rw [HI.out]; rfl, by rw [HI.out]; omega, hR, ?_, fun a ha => ?_⟩
    ·rw [setCells_size]
     have := HB1.out.size
     omega
    ·exact below_setCells_own hB _ _ _ (HBr.out a (ha.trans (HB1.out.mono (by omega))))
end Go.Proofs.Ytaofkaehhikfaaa
