/-
  Plain words of values: parts of tokens, by their places. No run of the program in this text.
-/
import Derived.Test.YtaofkaehhikfaaaGaa
import Derived.Lib.Strings
import Derived.Laws.IdiomStrings
import Derived.Laws.BytesArg
namespace Go.Proofs.Ytaofkaehhikfaaa
open Go.RowKit
namespace Vl
open Tk Ns
def seg (L : List Tok) (a z : Nat) : List Tok := (L.drop a).take (z - a)
theorem seg_end {L : List Tok} {a z : Nat} (h : z <= a) : seg L a z = [] := by unfold seg; rw [show z - a = 0 by omega]; rfl
theorem seg_on {L : List Tok} {a z : Nat} (h : a < z) (hl : a < L.length) : seg L a z = tk L a :: seg L (a + 1) z := by
 unfold seg
 rw [List.drop_eq_getElem_cons hl, show z - a = (z - (a + 1)) + 1 by omega, List.take_succ_cons, tk_eq hl]
theorem seg_all (L : List Tok) (a : Nat) : seg L a L.length = L.drop a := by unfold seg; exact List.take_of_length_le (by simp)
theorem seg_len {L : List Tok} {a z : Nat} (hz : z <= L.length) : (seg L a z).length = z - a := by unfold seg; simp; omega
theorem seg_tk {L : List Tok} {a z j : Nat} (h : a + j < z) : tk (seg L a z) j = tk L (a + j) := by
 unfold tk seg
 rw [List.getD_eq_getElem?_getD, List.getElem?_take_of_lt (by omega), List.getElem?_drop, List.getD_eq_getElem?_getD]
theorem seg_seg {L : List Tok} {a z b c : Nat} (h : a + c <= z) : seg (seg L a z) b c = seg L (a + b) (a + c) := by
 unfold seg
 rw [List.drop_take, List.drop_drop, List.take_take]
 congr 1
 omega
def cut : List ByteArray -> List Tok -> Option (List Tok × List Tok)
 | _, [] => none
 | s, t :: r =>
   if isO t then (cut (clo t :: s) r).map fun p => (t :: p.1, p.2)
   else if t.1 = 13 /\ s.head? = some t.2.1 then
    if s.tail = [] then some ([], r) else (cut s.tail r).map fun p => (t :: p.1, p.2)
   else (cut s r).map fun p => (t :: p.1, p.2)
theorem cut_open {s : List ByteArray} {t : Tok} {r : List Tok} (h : isO t) : cut s (t :: r) = (cut (clo t :: s) r).map fun p => (t :: p.1, p.2) := by rw [cut, if_pos h]
theorem cut_last {s : List ByteArray} {t : Tok} {r : List Tok} (h : ¬ isO t) (h2 : t.1 = 13 /\ s.head? = some t.2.1) (h3 : s.tail = []) : cut s (t :: r) = some ([], r) := by rw [cut, if_neg h, if_pos h2, if_pos h3]
theorem cut_pop {s : List ByteArray} {t : Tok} {r : List Tok} (h : ¬ isO t) (h2 : t.1 = 13 /\ s.head? = some t.2.1) (h3 : s.tail ≠ []) : cut s (t :: r) = (cut s.tail r).map fun p => (t :: p.1, p.2) := by rw [cut, if_neg h, if_pos h2, if_neg h3]
theorem cut_keep {s : List ByteArray} {t : Tok} {r : List Tok} (h : ¬ isO t) (h2 : ¬ (t.1 = 13 /\ s.head? = some t.2.1)) : cut s (t :: r) = (cut s r).map fun p => (t :: p.1, p.2) := by rw [cut, if_neg h, if_neg h2]
theorem cut_len : ∀ {l : List Tok} {s : List ByteArray} {m r : List Tok}, cut s l = some (m, r) -> ∃ c, l = m ++ c :: r
 | [], s, m, r, h => by rw [cut] at h; cases h
 | t :: l, s, m, r, h => by
   have step : ∀ {s'}, (cut s' l).map (fun p => (t :: p.1, p.2)) = some (m, r) -> ∃ c, t :: l = m ++ c :: r := fun {s'} h => by
    cases hc : cut s' l with
    | none => rw [hc] at h; cases h
    | some p =>
      obtain ⟨m', r'⟩ := p
      rw [hc] at h
      simp only [Option.map_some, Option.some.injEq, Prod.mk.injEq] at h
      obtain ⟨rfl, rfl⟩ := h
      obtain ⟨c, rfl⟩ := cut_len hc
      exact ⟨c, rfl⟩
   by_cases h1 : isO t
   ·rw [cut_open h1] at h; exact step h
   ·by_cases h2 : t.1 = 13 /\ s.head? = some t.2.1
    ·by_cases h3 : s.tail = []
     ·rw [cut_last h1 h2 h3] at h
      simp only [Option.some.injEq, Prod.mk.injEq] at h
      obtain ⟨rfl, rfl⟩ := h
      exact ⟨t, rfl⟩
     ·rw [cut_pop h1 h2 h3] at h; exact step h
    ·rw [cut_keep h1 h2] at h; exact step h
theorem cut_lt {l : List Tok} {s : List ByteArray} {p : List Tok × List Tok} (h : cut s l = some p) : p.2.length < l.length := by
 obtain ⟨m, r⟩ := p
 obtain ⟨c, rfl⟩ := cut_len h
 simp; omega
def parts (l : List Tok) : Option (List (Tok × List Tok)) :=
 match l with
 | [] => some []
 | t :: r =>
   if isO t then
    match _h : cut [clo t] r with
    | none => none
    | some p => (parts p.2).map fun ps => (t, p.1) :: ps
   else (parts r).map fun ps => (t, []) :: ps
termination_by l.length
decreasing_by
 ·have := cut_lt _h; simp; omega
 ·simp
theorem parts_nil : parts [] = some [] := by rw [parts]
theorem parts_plain {t : Tok} {r : List Tok} (h : ¬ isO t) : parts (t :: r) = (parts r).map fun ps => (t, []) :: ps := by rw [parts, if_neg h]
theorem parts_none {t : Tok} {r : List Tok} (h : isO t) (hc : cut [clo t] r = none) : parts (t :: r) = none := by
 rw [parts, if_pos h]
 split
 ·rfl
 ·rename_i p hp; rw [hc] at hp; cases hp
theorem parts_open {t : Tok} {r m r' : List Tok} (h : isO t) (hc : cut [clo t] r = some (m, r')) : parts (t :: r) = (parts r').map fun ps => (t, m) :: ps := by
 rw [parts, if_pos h]
 split
 ·rename_i hp; rw [hc] at hp; cases hp
 ·rename_i p hp; rw [hc] at hp; cases hp; rfl
section
variable {L : List Tok}
theorem opn_not {x : Nat} : ∀ {k : Nat}, x < k -> x ∉ opn L k -> ∀ {m : Nat}, k <= m -> x ∉ opn L m
 | k, hx, hn, m, h => by
   have : ∀ d, x ∉ opn L (k + d) := fun d => by
    induction d with
    | zero => exact hn
    | succ d ih => exact fun hm => ih (mem_prev (k := k + d) hm (by omega))
   have h2 := this (m - k)
   rwa [show k + (m - k) = m by omega] at h2
theorem end_ge {a z : Nat} (hz : z <= L.length) (h : a ∈ opn L z) : (z : Int) <= Ru.g (ends L) a := by
 show (z : Int) <= (enF L L.length).getD a 0
 have hlt := opn_lt h
 by_cases hm : a ∈ opn L L.length
 ·rw [enF_open hm]; omega
 ·rcases enF_cases (by omega) hm with ⟨h1, _⟩ | ⟨j, h1, h2, h3, h4, h5⟩
  ·exact absurd (opn_isO h) h1
  ·rw [h5]
   have hg := top_gone h3
   rw [h4] at hg
   by_cases hjz : j + 1 <= z
   ·exact absurd h (opn_not (by omega) hg hjz)
   ·omega
theorem end_at {a j : Nat} (hj : j < L.length) (hc : closes L (opn L j) j) (ht : top (opn L j) = a) : Ru.g (ends L) a = (j : Int) := by
 show (enF L L.length).getD a 0 = (j : Int)
 exact enF_at_pop hc ht hj
theorem end_is {a e : Nat} (hO : isO (tk L a)) (ha : a < L.length) (he : Ru.g (ends L) a = (e : Int)) (hlt : e < L.length) : a < e /\ closes L (opn L e) e /\ top (opn L e) = a := by
 have he' : (enF L L.length).getD a 0 = (e : Int) := he
 by_cases hm : a ∈ opn L L.length
 ·rw [enF_open hm] at he'; omega
 ·rcases enF_cases ha hm with ⟨h1, _⟩ | ⟨j, h1, h2, h3, h4, h5⟩
  ·exact absurd hO h1
  ·rw [h5] at he'
   obtain rfl : j = e := by omega
   exact ⟨h1, h3, h4⟩
theorem opn_till {a e : Nat} (hO : isO (tk L a)) (hae : a < e) (hc : closes L (opn L e) e) (ht : top (opn L e) = a) : opn L e = opn L a ++ [a] /\ opn L (e + 1) = opn L a := by
 have hmem : a ∈ opn L e := ht ▸ top_mem hc.2.1
 obtain ⟨r, hr⟩ : ∃ r, opn L e = opn L a ++ a :: r := by
  obtain ⟨e', rfl⟩ : ∃ e', e = e' + 1 := ⟨e - 1, by omega⟩
  exact opn_prefix hO e' (by omega) hmem
 have hr0 : r = [] := by
  rcases List.eq_nil_or_concat r with h0 | ⟨r', x, h0⟩
  ·exact h0
  ·rw [List.concat_eq_append] at h0
   subst h0
   have hs := opn_sorted L e
   rw [hr] at ht hs
   have hx : x = a := by
    rw [<- ht]; unfold top
    rw [show opn L a ++ a :: (r' ++ [x]) = (opn L a ++ a :: r') ++ [x] by simp, List.getLastD_concat]
   subst hx
   rw [List.pairwise_append] at hs
   have := hs.2.1
   rw [List.pairwise_cons] at this
   have := this.1 x (by simp)
   omega
 subst hr0
 refine ⟨hr, ?_⟩
 rw [opn_pop hc, hr]
 exact List.dropLast_concat
theorem cut_seg {a z : Nat} (hO : isO (tk L a)) (hz : z <= L.length) : ∀ (n j : Nat), z - j <= n -> a < j -> j <= z -> ∀ r, opn L j = opn L a ++ a :: r ->
 cut ((a :: r).map fun x => clo (tk L x)).reverse (seg L j z) = if Ru.g (ends L) a < z then some (seg L j (Ru.g (ends L) a).toNat, seg L ((Ru.g (ends L) a).toNat + 1) z) else none
 | n, j, hn, haj, hj, r, ho => by
   have hm : a ∈ opn L j := by rw [ho]; simp
   by_cases hlt : j < z
   ·rw [seg_on hlt (by omega)]
    have hge := end_ge (L := L) (by omega) hm
    match n, hn with
    | 0, hn => omega
    | n + 1, hn =>
      by_cases h1 : isO (tk L j)
      ·have hm' : a ∈ opn L (j + 1) := by rw [opn_push h1]; exact List.mem_append_left _ hm
       have hge' := end_ge (L := L) (by omega) hm'
       have ih := cut_seg hO hz n (j + 1) (by omega) (by omega) hlt (r ++ [j]) (by rw [opn_push h1, ho]; simp)
       rw [cut_open h1]
       have es : ((a :: (r ++ [j])).map fun x => clo (tk L x)).reverse = clo (tk L j) :: ((a :: r).map fun x => clo (tk L x)).reverse := by simp
       rw [es] at ih
       rw [ih]
       split
       ·rw [seg_on (a := j) (z := (Ru.g (ends L) a).toNat) (by omega) (by omega)]; rfl
       ·rfl
      ·have hhead : ((a :: r).map fun x => clo (tk L x)).reverse.head? = some (clo (tk L (top (opn L j)))) := by
        rw [List.head?_reverse, List.getLast?_map, ho]
        unfold top
        rw [List.getLastD_eq_getLast?, List.getLast?_append]
        cases h : (a :: r).getLast? with
        | none => simp at h
        | some y => rfl
       by_cases h2 : closes L (opn L j) j
       ·have h2' : (tk L j).1 = 13 /\ ((a :: r).map fun x => clo (tk L x)).reverse.head? = some (tk L j).2.1 := ⟨h2.1, by rw [hhead, h2.2.2]⟩
        rcases List.eq_nil_or_concat r with h0 | ⟨r', x, h0⟩
        ·subst h0
         have ht : top (opn L j) = a := by rw [ho]; unfold top; rw [List.getLastD_concat]
         have he := end_at (by omega) h2 ht
         rw [cut_last h1 h2' (by simp), he, if_pos (by omega), Int.toNat_natCast, seg_end (Nat.le_refl j)]
        ·rw [List.concat_eq_append] at h0
         subst h0
         have ht : top (opn L j) = x := by rw [ho]; unfold top; rw [show opn L a ++ a :: (r' ++ [x]) = (opn L a ++ a :: r') ++ [x] by simp, List.getLastD_concat]
         have hp : opn L (j + 1) = opn L a ++ a :: r' := by rw [opn_pop h2, ho, show opn L a ++ a :: (r' ++ [x]) = (opn L a ++ a :: r') ++ [x] by simp, List.dropLast_concat]
         have hm' : a ∈ opn L (j + 1) := by rw [hp]; simp
         have hge' := end_ge (L := L) (by omega) hm'
         have ih := cut_seg hO hz n (j + 1) (by omega) (by omega) hlt r' hp
         have es : ((a :: (r' ++ [x])).map fun x => clo (tk L x)).reverse.tail = ((a :: r').map fun x => clo (tk L x)).reverse := by simp
         rw [cut_pop h1 h2' (by rw [es]; simp), es, ih]
         split
         ·rw [seg_on (a := j) (z := (Ru.g (ends L) a).toNat) (by omega) (by omega)]; rfl
         ·rfl
       ·have h2' : ¬ ((tk L j).1 = 13 /\ ((a :: r).map fun x => clo (tk L x)).reverse.head? = some (tk L j).2.1) := fun h => h2 (by
         refine ⟨h.1, by rw [ho]; simp, ?_⟩
         have := hhead.symm.trans h.2
         injection this)
        have hp : opn L (j + 1) = opn L a ++ a :: r := by rw [opn_keep h1 h2, ho]
        have hm' : a ∈ opn L (j + 1) := by rw [hp]; simp
        have hge' := end_ge (L := L) (by omega) hm'
        have ih := cut_seg hO hz n (j + 1) (by omega) (by omega) hlt r hp
        rw [cut_keep h1 h2', ih]
        split
        ·rw [seg_on (a := j) (z := (Ru.g (ends L) a).toNat) (by omega) (by omega)]; rfl
        ·rfl
   ·obtain rfl : j = z := by omega
    rw [seg_end (Nat.le_refl j), cut, if_neg (by have := end_ge (L := L) hz hm; omega)]
def arg (L : List Tok) (x : Nat) : List Tok := if Ru.g (ends L) x < 0 then [] else seg L (x + 1) (Ru.g (ends L) x).toNat
theorem parts_seg {o : List Nat} {z : Nat} (hz : z <= L.length) (H : ∀ j, j < z -> opn L j = o -> ¬ closes L (opn L j) j) : ∀ (n a : Nat), z - a <= n -> a <= z -> opn L a = o ->
 parts (seg L a z) = if (∀ x ∈ plc (ends L) z a, Ru.g (ends L) x < z) then some ((plc (ends L) z a).map fun x => (tk L x, arg L x)) else none
 | n, a, hn, ha, ho => by
   by_cases hlt : a < z
   ·rw [seg_on hlt (by omega), plc_on hlt]
    match n, hn with
    | 0, hn => omega
    | n + 1, hn =>
      have hel := ends_len L
      have es := sk_eq (ends L) a
      by_cases h1 : isO (tk L a)
      ·have hpush := opn_push h1
       have hc := cut_seg h1 hz (z - (a + 1)) (a + 1) (by omega) (by omega) (by omega) [] hpush
       have es1 : ([a].map fun x => clo (tk L x)).reverse = [clo (tk L a)] := rfl
       rw [es1] at hc
       have hge := end_ge (L := L) (show a + 1 <= L.length by omega) (by rw [hpush]; simp : a ∈ opn L (a + 1))
       by_cases hez : Ru.g (ends L) a < z
       ·rw [if_pos hez] at hc
        rw [parts_open h1 hc]
        obtain ⟨e, he⟩ : ∃ e : Nat, Ru.g (ends L) a = (e : Int) := ⟨(Ru.g (ends L) a).toNat, by omega⟩
        have hi := end_is h1 (by omega) he (by omega)
        have ht := opn_till h1 hi.1 hi.2.1 hi.2.2
        rw [skp_yes (by omega) (by omega) (by rw [Int.toNat_natCast]; omega), Int.toNat_natCast, he] at es
        have hsk : sk (ends L) a = e + 1 := by omega
        have ih := parts_seg hz H n (e + 1) (by omega) (by omega) (ht.2.trans ho)
        rw [hsk, he, Int.toNat_natCast, ih]
        by_cases hall : ∀ x ∈ plc (ends L) z (e + 1), Ru.g (ends L) x < z
        ·rw [if_pos hall, if_pos (by
          intro x hx
          rcases List.mem_cons.1 hx with rfl | hx
          ·exact hez
          ·exact hall x hx)]
         simp only [Option.map_some, List.map_cons]
         congr 2
         unfold arg
         rw [if_neg (by omega), he, Int.toNat_natCast]
        ·rw [if_neg hall, if_neg (fun h => hall fun x hx => h x (List.mem_cons_of_mem _ hx))]; rfl
       ·rw [if_neg hez] at hc
        rw [parts_none h1 hc, if_neg (fun h => hez (h a (by simp)))]
      ·have he := ends_none (show a < L.length by omega) h1
       rw [skp_no (fun c => by have := c.2.2; rw [Int.toNat_natCast, he] at this; omega)] at es
       have hsk : sk (ends L) a = a + 1 := by omega
       have ih := parts_seg hz H n (a + 1) (by omega) (by omega) (by rw [opn_keep h1 (H a hlt ho), ho])
       rw [parts_plain h1, hsk, ih]
       by_cases hall : ∀ x ∈ plc (ends L) z (a + 1), Ru.g (ends L) x < z
       ·rw [if_pos hall, if_pos (by
         intro x hx
         rcases List.mem_cons.1 hx with rfl | hx
         ·rw [he]; omega
         ·exact hall x hx)]
        simp only [Option.map_some, List.map_cons]
        congr 2
        unfold arg
        rw [he, if_pos (by omega)]
       ·rw [if_neg hall, if_neg (fun h => hall fun x hx => h x (List.mem_cons_of_mem _ hx))]; rfl
   ·obtain rfl : a = z := by omega
    rw [seg_end (Nat.le_refl a), plc_end (by omega), parts_nil, if_pos (by simp)]; rfl
theorem parts_all (L : List Tok) : parts L = if (∀ x ∈ plc (ends L) L.length 0, Ru.g (ends L) x < L.length) then some ((plc (ends L) L.length 0).map fun x => (tk L x, arg L x)) else none := by
 have h := parts_seg (L := L) (o := []) (z := L.length) (Nat.le_refl _) (fun j _ ho hc => hc.2.1 ho) L.length 0 (by omega) (Nat.zero_le _) rfl
 rwa [seg_all, List.drop_zero] at h
theorem parts_in {b e : Nat} (hO : isO (tk L b)) (hb : b < L.length) (he : Ru.g (ends L) b = (e : Int)) (hlt : e < L.length) :
 b < e /\ (∀ x ∈ plc (ends L) e (b + 1), Ru.g (ends L) x < e) /\ parts (seg L (b + 1) e) = some ((plc (ends L) e (b + 1)).map fun x => (tk L x, arg L x)) := by
 have hi := end_is hO hb he hlt
 have ht := opn_till hO hi.1 hi.2.1 hi.2.2
 have H : ∀ j, j < e -> opn L j = opn L b ++ [b] -> ¬ closes L (opn L j) j := fun j hj ho hc => by
  have htop : top (opn L j) = b := by rw [ho]; unfold top; rw [List.getLastD_concat]
  have := end_at (by omega) hc htop
  omega
 have hin : ∀ (n a : Nat), e - a <= n -> a <= e -> opn L a = opn L b ++ [b] -> ∀ x ∈ plc (ends L) e a, Ru.g (ends L) x < e := fun n => by
  induction n with
  | zero =>
    intro a hn ha _ x hx
    rw [plc_end (by omega)] at hx; cases hx
  | succ n ih =>
    intro a hn ha ho x hx
    by_cases hae : a < e
    ·rw [plc_on hae] at hx
     have hel := ends_len L
     have es := sk_eq (ends L) a
     by_cases h1 : isO (tk L a)
     ·have hno : a ∉ opn L e := by
       rw [ht.1, <- ho]
       intro h
       have := opn_lt h
       omega
      rcases enF_cases hae hno with ⟨h2, _⟩ | ⟨j, h2, h3, h4, h5, _⟩
      ·exact absurd h1 h2
      ·have hja := end_at (by omega) h4 h5
       rcases List.mem_cons.1 hx with rfl | hx
       ·rw [hja]; omega
       ·rw [skp_yes (by omega) (by omega) (by rw [Int.toNat_natCast, hja]; omega), Int.toNat_natCast, hja] at es
        have hsk : sk (ends L) a = j + 1 := by omega
        rw [hsk] at hx
        exact ih (j + 1) (by omega) (by omega) ((opn_till h1 h2 h4 h5).2.trans ho) x hx
     ·have hen := ends_none (show a < L.length by omega) h1
      rcases List.mem_cons.1 hx with rfl | hx
      ·rw [hen]; omega
      ·rw [skp_no (fun c => by have := c.2.2; rw [Int.toNat_natCast, hen] at this; omega)] at es
       have hsk : sk (ends L) a = a + 1 := by omega
       rw [hsk] at hx
       exact ih (a + 1) (by omega) (by omega) (by rw [opn_keep h1 (H a hae ho), ho]) x hx
    ·rw [plc_end hae] at hx; cases hx
 have hall := hin e (b + 1) (by omega) (by omega) (opn_push hO)
 refine ⟨hi.1, hall, ?_⟩
 have h := parts_seg (L := L) (o := opn L b ++ [b]) (z := e) (by omega) H e (b + 1) (by omega) (by omega) (opn_push hO)
 rwa [if_pos hall] at h
end
end Vl
namespace Vl
open Tk Ns
def dp : List ByteArray -> List Tok -> Prop
 | _, [] => False
 | s, t :: r =>
   if isO t then 64 < s.length + 1 ∨ dp (clo t :: s) r
   else if t.1 = 13 /\ s.head? = some t.2.1 then dp s.tail r else dp s r
theorem dp_open {s : List ByteArray} {t : Tok} {r : List Tok} (h : isO t) : dp s (t :: r) ↔ 64 < s.length + 1 ∨ dp (clo t :: s) r := by rw [dp, if_pos h]
theorem dp_pop {s : List ByteArray} {t : Tok} {r : List Tok} (h : ¬ isO t) (h2 : t.1 = 13 /\ s.head? = some t.2.1) : dp s (t :: r) ↔ dp s.tail r := by rw [dp, if_neg h, if_pos h2]
theorem dp_keep {s : List ByteArray} {t : Tok} {r : List Tok} (h : ¬ isO t) (h2 : ¬ (t.1 = 13 /\ s.head? = some t.2.1)) : dp s (t :: r) ↔ dp s r := by rw [dp, if_neg h, if_neg h2]
def stk (L : List Tok) (j : Nat) : List ByteArray := ((opn L j).map fun x => clo (tk L x)).reverse
theorem stk_len (L : List Tok) (j : Nat) : (stk L j).length = (opn L j).length := by unfold stk; simp
theorem stk_push {L : List Tok} {j : Nat} (h : isO (tk L j)) : stk L (j + 1) = clo (tk L j) :: stk L j := by unfold stk; rw [opn_push h]; simp
theorem stk_pop {L : List Tok} {j : Nat} (h : closes L (opn L j) j) : stk L (j + 1) = (stk L j).tail := by unfold stk; rw [opn_pop h]; simp [List.tail_reverse, List.map_dropLast]
theorem stk_head {L : List Tok} {j : Nat} : closes L (opn L j) j ↔ ((tk L j).1 = 13 /\ (stk L j).head? = some (tk L j).2.1) := by
 unfold closes stk
 rw [List.head?_reverse, List.getLast?_map]
 unfold top
 rw [List.getLastD_eq_getLast?]
 constructor
 ·intro ⟨h1, h2, h3⟩
  rw [List.getLast?_eq_some_getLast h2] at h3 ⊢
  exact ⟨h1, congrArg some h3⟩
 ·intro ⟨h1, h2⟩
  by_cases h0 : opn L j = []
  ·rw [h0] at h2; cases h2
  ·rw [List.getLast?_eq_some_getLast h0] at h2 ⊢
   exact ⟨h1, h0, by injection h2⟩
theorem deep_dp (L : List Tok) : ∀ (n j : Nat), L.length - j <= n -> j <= L.length -> (opn L j).length <= 64 -> (dp (stk L j) (L.drop j) ↔ ∃ k, j <= k /\ k < L.length /\ 64 < (opn L (k + 1)).length)
 | n, j, hn, hj, hs => by
   by_cases hlt : j < L.length
   ·rw [List.drop_eq_getElem_cons hlt, <- tk_eq hlt]
    match n, hn with
    | 0, hn => omega
    | n + 1, hn =>
      have split : ∀ (P : Nat -> Prop), ¬ P j -> ((∃ k, j <= k /\ k < L.length /\ P k) ↔ ∃ k, j + 1 <= k /\ k < L.length /\ P k) := fun P hP =>
       ⟨fun ⟨k, h1, h2, h3⟩ => ⟨k, by rcases Nat.lt_or_ge j k with h | h; exact h; exact absurd (show P j by rwa [show j = k by omega]) hP, h2, h3⟩, fun ⟨k, h1, h2, h3⟩ => ⟨k, by omega, h2, h3⟩⟩
      by_cases h1 : isO (tk L j)
      ·rw [dp_open h1, <- stk_push h1, stk_len]
       have hl : (opn L (j + 1)).length = (opn L j).length + 1 := by rw [opn_push h1]; simp
       by_cases hd : 64 < (opn L j).length + 1
       ·exact ⟨fun _ => ⟨j, Nat.le_refl _, hlt, by omega⟩, fun _ => .inl hd⟩
       ·rw [deep_dp L n (j + 1) (by omega) hlt (by omega), split (fun k => 64 < (opn L (k + 1)).length) (by omega)]
        exact ⟨fun h => h.elim (fun h => absurd h hd) id, .inr⟩
      ·by_cases h2 : closes L (opn L j) j
       ·have hl : (opn L (j + 1)).length = (opn L j).length - 1 := by rw [opn_pop h2]; simp
        rw [dp_pop h1 (stk_head.1 h2), <- stk_pop h2, deep_dp L n (j + 1) (by omega) hlt (by omega), split (fun k => 64 < (opn L (k + 1)).length) (by omega)]
       ·have hl : opn L (j + 1) = opn L j := opn_keep h1 h2
        have e : stk L (j + 1) = stk L j := by unfold stk; rw [hl]
        rw [dp_keep h1 (fun h => h2 (stk_head.2 h)), <- e, deep_dp L n (j + 1) (by omega) hlt (by rw [hl]; omega), split (fun k => 64 < (opn L (k + 1)).length) (by rw [hl]; omega)]
   ·rw [List.drop_eq_nil_of_le (by omega)]
    exact ⟨fun h => by rw [dp] at h; exact h.elim, fun ⟨k, h1, h2, _⟩ => by omega⟩
theorem deep_iff (L : List Tok) : deep L ↔ dp [] L := by
 have h := deep_dp L L.length 0 (by omega) (Nat.zero_le _) (by simp [opn])
 rw [List.drop_zero, show stk L 0 = [] from rfl] at h
 rw [h]
 exact ⟨fun ⟨k, h1, h2⟩ => ⟨k, Nat.zero_le _, h1, h2⟩, fun ⟨k, _, h1, h2⟩ => ⟨k, h1, h2⟩⟩
def F (l : List Tok) : List Tok := l.filter fun t => !decide (t.1 = 1)
theorem F_sp {t : Tok} {l : List Tok} (h : t.1 = 1) : F (t :: l) = F l := by unfold F; rw [List.filter_cons, if_neg (by simp [h])]
theorem F_on {t : Tok} {l : List Tok} (h : t.1 ≠ 1) : F (t :: l) = t :: F l := by unfold F; rw [List.filter_cons, if_pos (by simp [h])]
theorem F_app (a b : List Tok) : F (a ++ b) = F a ++ F b := by unfold F; rw [List.filter_append]
theorem F_len (l : List Tok) : (F l).length <= l.length := List.length_filter_le _ _
theorem F_mem {l : List Tok} {t : Tok} (h : t ∈ F l) : t ∈ l /\ t.1 ≠ 1 := by
 unfold F at h
 rw [List.mem_filter] at h
 exact ⟨h.1, by simpa using h.2⟩
theorem F_F (l : List Tok) : F (F l) = F l := by unfold F; rw [List.filter_filter]; simp
theorem sp_not {t : Tok} (h : t.1 = 1) : ¬ isO t := not_O (by omega) (by omega)
theorem dp_F : ∀ (l : List Tok) (s : List ByteArray), dp s (F l) ↔ dp s l
 | [], s => Iff.rfl
 | t :: l, s => by
   by_cases h : t.1 = 1
   ·rw [F_sp h, dp_keep (sp_not h) (fun c => by omega)]; exact dp_F l s
   ·rw [F_on h]
    by_cases h1 : isO t
    ·rw [dp_open h1, dp_open h1, dp_F l]
    ·by_cases h2 : t.1 = 13 /\ s.head? = some t.2.1
     ·rw [dp_pop h1 h2, dp_pop h1 h2, dp_F l]
     ·rw [dp_keep h1 h2, dp_keep h1 h2, dp_F l]
theorem cut_F : ∀ (l : List Tok) (s : List ByteArray), cut s (F l) = (cut s l).map fun p => (F p.1, F p.2)
 | [], s => by rw [show F [] = [] from rfl, cut]; rfl
 | t :: l, s => by
   by_cases h : t.1 = 1
   ·rw [F_sp h, cut_keep (sp_not h) (fun c => by omega), cut_F l s, Option.map_map]
    congr 1
    funext p
    simp only [Function.comp, F_sp h]
   ·rw [F_on h]
    by_cases h1 : isO t
    ·rw [cut_open h1, cut_open h1, cut_F l, Option.map_map, Option.map_map]
     congr 1
     funext p
     simp only [Function.comp, F_on h]
    ·by_cases h2 : t.1 = 13 /\ s.head? = some t.2.1
     ·by_cases h3 : s.tail = []
      ·rw [cut_last h1 h2 h3, cut_last h1 h2 h3]; rfl
      ·rw [cut_pop h1 h2 h3, cut_pop h1 h2 h3, cut_F l, Option.map_map, Option.map_map]
       congr 1
       funext p
       simp only [Function.comp, F_on h]
     ·rw [cut_keep h1 h2, cut_keep h1 h2, cut_F l, Option.map_map, Option.map_map]
      congr 1
      funext p
      simp only [Function.comp, F_on h]
def G (ps : List (Tok × List Tok)) : List (Tok × List Tok) := ps.filter fun p => !decide (p.1.1 = 1)
def GF (ps : List (Tok × List Tok)) : List (Tok × List Tok) := (G ps).map fun p => (p.1, F p.2)
theorem G_sp {p : Tok × List Tok} {l : List (Tok × List Tok)} (h : p.1.1 = 1) : G (p :: l) = G l := by unfold G; rw [List.filter_cons, if_neg (by simp [h])]
theorem G_on {p : Tok × List Tok} {l : List (Tok × List Tok)} (h : p.1.1 ≠ 1) : G (p :: l) = p :: G l := by unfold G; rw [List.filter_cons, if_pos (by simp [h])]
theorem parts_F : ∀ (n : Nat) (l : List Tok), l.length <= n -> parts (F l) = (parts l).map GF
 | _, [], _ => by rw [show F [] = [] from rfl, parts_nil]; rfl
 | 0, t :: l, hn => by simp at hn
 | n + 1, t :: l, hn => by
   by_cases h : t.1 = 1
   ·rw [F_sp h, parts_plain (sp_not h), parts_F n l (by simp at hn; omega), Option.map_map]
    congr 1
    funext ps
    simp only [Function.comp, GF, G_sp (p := (t, [])) h]
   ·rw [F_on h]
    by_cases h1 : isO t
    ·cases hc : cut [clo t] l with
     | none => rw [parts_none h1 hc, parts_none h1 (by rw [cut_F, hc]; rfl)]; rfl
     | some p =>
       obtain ⟨m, r⟩ := p
       have hlt := cut_lt hc
       rw [parts_open h1 hc, parts_open h1 (by rw [cut_F, hc]; rfl), parts_F n r (by simp at hn hlt; omega), Option.map_map, Option.map_map]
       congr 1
       funext ps
       simp only [Function.comp, GF, G_on (p := (t, m)) h, List.map_cons]
    ·rw [parts_plain h1, parts_plain h1, parts_F n l (by simp at hn; omega), Option.map_map, Option.map_map]
     congr 1
     funext ps
     simp only [Function.comp, GF, G_on (p := (t, [])) h, List.map_cons]; rfl
theorem dp_cut (c : ByteArray) : ∀ (l : List Tok) (s : List ByteArray) (m r : List Tok), cut (s ++ [c]) l = some (m, r) -> dp s m -> dp (s ++ [c]) l
 | [], s, m, r, h, _ => by rw [cut] at h; cases h
 | t :: l, s, m, r, h, hd => by
   have step : ∀ {s'}, (cut s' l).map (fun p => (t :: p.1, p.2)) = some (m, r) -> ∃ m', m = t :: m' /\ cut s' l = some (m', r) := fun {s'} h => by
    cases hc : cut s' l with
    | none => rw [hc] at h; cases h
    | some p =>
      obtain ⟨m', r'⟩ := p
      rw [hc] at h
      simp only [Option.map_some, Option.some.injEq, Prod.mk.injEq] at h
      obtain ⟨rfl, rfl⟩ := h
      exact ⟨m', rfl, rfl⟩
   by_cases h1 : isO t
   ·rw [cut_open h1] at h
    obtain ⟨m', rfl, hc⟩ := step h
    rw [dp_open h1] at hd ⊢
    rcases hd with hd | hd
    ·exact .inl (by simp; omega)
    ·exact .inr (dp_cut c l (clo t :: s) m' r hc hd)
   ·by_cases h2 : t.1 = 13 /\ (s ++ [c]).head? = some t.2.1
    ·match s, h, hd, h2 with
     | [], h, hd, h2 =>
       rw [cut_last h1 h2 rfl] at h
       simp only [Option.some.injEq, Prod.mk.injEq] at h
       obtain ⟨rfl, rfl⟩ := h
       rw [dp] at hd
       exact hd.elim
     | x :: s, h, hd, h2 =>
       rw [cut_pop h1 h2 (by simp)] at h
       obtain ⟨m', rfl, hc⟩ := step h
       rw [dp_pop h1 h2]
       rw [dp_pop (s := x :: s) h1 ⟨h2.1, h2.2⟩] at hd
       exact dp_cut c l s m' r hc hd
    ·rw [cut_keep h1 h2] at h
     obtain ⟨m', rfl, hc⟩ := step h
     rw [dp_keep h1 h2]
     have h2' : ¬ (t.1 = 13 /\ s.head? = some t.2.1) := fun hh => h2 ⟨hh.1, by
      match s, hh with
      | [], hh => cases hh.2
      | x :: s, hh => exact hh.2⟩
     rw [dp_keep h1 h2'] at hd
     exact dp_cut c l s m' r hc hd
theorem dp_rest : ∀ (l : List Tok) (s : List ByteArray) (m r : List Tok), s ≠ [] -> cut s l = some (m, r) -> dp [] r -> dp s l
 | [], s, m, r, _, h, _ => by rw [cut] at h; cases h
 | t :: l, s, m, r, hs, h, hd => by
   have step : ∀ {s'}, (cut s' l).map (fun p => (t :: p.1, p.2)) = some (m, r) -> ∃ m', m = t :: m' /\ cut s' l = some (m', r) := fun {s'} h => by
    cases hc : cut s' l with
    | none => rw [hc] at h; cases h
    | some p =>
      obtain ⟨m', r'⟩ := p
      rw [hc] at h
      simp only [Option.map_some, Option.some.injEq, Prod.mk.injEq] at h
      obtain ⟨rfl, rfl⟩ := h
      exact ⟨m', rfl, rfl⟩
   by_cases h1 : isO t
   ·rw [cut_open h1] at h
    obtain ⟨m', rfl, hc⟩ := step h
    rw [dp_open h1]
    exact .inr (dp_rest l _ m' r (by simp) hc hd)
   ·by_cases h2 : t.1 = 13 /\ s.head? = some t.2.1
    ·by_cases h3 : s.tail = []
     ·rw [cut_last h1 h2 h3] at h
      simp only [Option.some.injEq, Prod.mk.injEq] at h
      obtain ⟨rfl, rfl⟩ := h
      rw [dp_pop h1 h2, h3]; exact hd
     ·rw [cut_pop h1 h2 h3] at h
      obtain ⟨m', rfl, hc⟩ := step h
      rw [dp_pop h1 h2]
      exact dp_rest l _ m' r h3 hc hd
    ·rw [cut_keep h1 h2] at h
     obtain ⟨m', rfl, hc⟩ := step h
     rw [dp_keep h1 h2]
     exact dp_rest l _ m' r hs hc hd
theorem parts_dp : ∀ (n : Nat) (l : List Tok), l.length <= n -> ∀ ps, parts l = some ps -> ¬ dp [] l -> ∀ p ∈ ps, ¬ dp [] p.2
 | _, [], _, ps, h, _, p, hp => by rw [parts_nil] at h; cases h; cases hp
 | 0, t :: l, hn, _, _, _, _, _ => by simp at hn
 | n + 1, t :: l, hn, ps, h, hd, p, hp => by
   by_cases h1 : isO t
   ·cases hc : cut [clo t] l with
    | none => rw [parts_none h1 hc] at h; cases h
    | some q =>
      obtain ⟨m, r⟩ := q
      have hlt := cut_lt hc
      rw [parts_open h1 hc] at h
      cases hq : parts r with
      | none => rw [hq] at h; cases h
      | some qs =>
        rw [hq] at h
        simp only [Option.map_some, Option.some.injEq] at h
        subst h
        rw [dp_open h1] at hd
        rcases List.mem_cons.1 hp with rfl | hp
        ·exact fun hm => hd (.inr (dp_cut (clo t) l [] m r hc hm))
        ·exact parts_dp n r (by simp at hn hlt; omega) qs hq (fun hr => hd (.inr (dp_rest l _ m r (by simp) hc hr))) p hp
   ·rw [parts_plain h1] at h
    cases hq : parts l with
    | none => rw [hq] at h; cases h
    | some qs =>
      rw [hq] at h
      simp only [Option.map_some, Option.some.injEq] at h
      subst h
      rw [dp_keep h1 (fun c => by cases c.2)] at hd
      rcases List.mem_cons.1 hp with rfl | hp
      ·intro hm; rw [dp] at hm; exact hm
      ·exact parts_dp n l (by simp at hn; omega) qs hq hd p hp
end Vl
namespace Ru
def bs (s : ByteArray) : List Int := s.data.toList.map fun b => (b.toNat : Int)
theorem bs_len (s : ByteArray) : (bs s).length = s.size := by unfold bs; rw [List.length_map, <- Lib.size_eq]
theorem bs_by (s : ByteArray) : By (bs s) := fun c hc => by
 unfold bs at hc
 obtain ⟨x, _, rfl⟩ := List.mem_map.1 hc
 have := x.toNat_lt
 omega
theorem bs_get (s : ByteArray) (k : Nat) (h : k < s.size) : g (bs s) k = (s[k].toNat : Int) := by
 rw [g_eq (by rw [bs_len]; exact h)]
 unfold bs
 rw [List.getElem_map]
 rfl
theorem bs_str {l : List Int} (h : By l) : bs (strOfNums l) = l := by
 unfold bs
 rw [strOfNums_data, List.map_map]
 apply List.ext_getElem
 ·simp
 ·intro i h1 h2
  simp only [List.getElem_map, Function.comp]
  have := h l[i] (List.getElem_mem h2)
  rw [UInt8.toNat_ofNat']
  omega
end Ru
theorem bytes_of (s : ByteArray) (w : World) : ∃ (C : Nat) (w0 : World), (convert 9 103 (.string s)).run Try.prog w = .ok (.slice (some ⟨w.heap.size, 0, none⟩) s.size C) w0 /\
 (∀ j, j < s.size -> w0.cell? ⟨w.heap.size, j, none⟩ = some (.int .u8 (Ru.g (Ru.bs s) j))) /\ (∀ j, j < s.size -> w0.frozen? ⟨w.heap.size, j, none⟩ = false) /\ Below w.heap.size w w0 /\ s.size <= C := by
 refine ⟨_, _, run_bytes_of_string w _ _ 5 s Try.underlying9 Try.underlying103 Try.underlying5, fun j hj => ?_, fun j hj => ?_, (Below.refl _ w).drew.alloc (Nat.le_refl _) _, grownCap_ge _ _ _ _⟩
 ·have h := World.cell?_alloc_mark w.drew (bytesRow s (grownCap w s.size 0 5)) 5 ((bytesRow s (grownCap w s.size 0 5)).size, (bytesRow s (grownCap w s.size 0 5)).size + 1) j
  refine h.trans ?_
  rw [Ru.bs_get s j hj]
  unfold bytesRow
  rw [Array.getElem?_append_left (by simpa using hj)]
  simp only [Array.getElem?_map]
  rw [Array.getElem?_eq_getElem hj]
  rfl
 ·have h := World.frozen?_alloc_mark w.drew (bytesRow s (grownCap w s.size 0 5)) 5 ((bytesRow s (grownCap w s.size 0 5)).size) ((bytesRow s (grownCap w s.size 0 5)).size + 1) j
  refine h.trans ?_
  have : j < (bytesRow s (grownCap w s.size 0 5)).size := by
   unfold bytesRow
   rw [Array.size_append, Array.size_map]
   have : s.data.size = s.size := rfl
   omega
  simp; omega
namespace Ru
def lowI (c : Int) : Int := if 65 <= c /\ c <= 90 then c + 32 else c
def lowS (s : ByteArray) : ByteArray := strOfNums ((bs s).map lowI)
theorem low_by {l : List Int} (h : By l) : By (l.map lowI) := fun c hc => by
 obtain ⟨x, hx, rfl⟩ := List.mem_map.1 hc
 have := h x hx
 unfold lowI; split <;> omega
theorem bs_low (s : ByteArray) : bs (lowS s) = (bs s).map lowI := bs_str (low_by (bs_by s))
theorem lowS_size (s : ByteArray) : (lowS s).size = s.size := by unfold lowS; rw [strOfNums_size, List.length_map, bs_len]
theorem lowI_low (c : Int) : lowI (lowI c) = lowI c := by unfold lowI; repeat' split <;> omega
theorem lowS_low (s : ByteArray) : lowS (lowS s) = lowS s := by
 have : ((bs s).map lowI).map lowI = (bs s).map lowI := by
  rw [List.map_map]; exact List.map_congr_left fun c _ => lowI_low c
 show strOfNums ((bs (lowS s)).map lowI) = strOfNums ((bs s).map lowI)
 rw [bs_low, this]
theorem g_map {l : List Int} {k : Nat} (h : k < l.length) : g (l.map lowI) k = lowI (g l k) := by
 rw [g_eq (by simpa using h), g_eq h, List.getElem_map]
def part (l : List Int) (k : Nat) : List Int := (l.take k).map lowI ++ l.drop k
theorem part_len (l : List Int) (k : Nat) (h : k <= l.length) : (part l k).length = l.length := by unfold part; simp; omega
theorem part_g (l : List Int) (k j : Nat) (h : k <= l.length) : g (part l k) j = if j < k then lowI (g l j) else g l j := by
 unfold part
 by_cases hj : j < k
 ·rw [if_pos hj, g_left (by simp; omega), g_map (by simp; omega)]
  unfold g
  rw [List.getD_eq_getElem?_getD, List.getD_eq_getElem?_getD, List.getElem?_take, if_pos hj]
 ·rw [if_neg hj]
  unfold g
  rw [List.getD_eq_getElem?_getD, List.getD_eq_getElem?_getD, List.getElem?_append_right (by simp; omega), List.getElem?_drop]
  congr 2
  simp; omega
end Ru
namespace Vl
open Tk Ns
abbrev wNone : ByteArray := ⟨#[110, 111, 110, 101]⟩
abbrev wNormal : ByteArray := ⟨#[110, 111, 114, 109, 97, 108]⟩
abbrev wAuto : ByteArray := ⟨#[97, 117, 116, 111]⟩
abbrev wInitial : ByteArray := ⟨#[105, 110, 105, 116, 105, 97, 108]⟩
abbrev wInherit : ByteArray := ⟨#[105, 110, 104, 101, 114, 105, 116]⟩
abbrev wStatic : ByteArray := ⟨#[115, 116, 97, 116, 105, 99]⟩
abbrev wRunning : ByteArray := ⟨#[114, 117, 110, 110, 105, 110, 103]⟩
abbrev wContent : ByteArray := ⟨#[99, 111, 110, 116, 101, 110, 116]⟩
abbrev wCounter : ByteArray := ⟨#[99, 111, 117, 110, 116, 101, 114]⟩
abbrev wCounters : ByteArray := ⟨#[99, 111, 117, 110, 116, 101, 114, 115]⟩
abbrev wString : ByteArray := ⟨#[115, 116, 114, 105, 110, 103]⟩
abbrev wElement : ByteArray := ⟨#[101, 108, 101, 109, 101, 110, 116]⟩
abbrev wAttr : ByteArray := ⟨#[97, 116, 116, 114]⟩
def nam (t : Tok) : Bool := decide (t.1 = 2 /\ Ru.lowS t.2.1 ≠ wNone /\ Ru.lowS t.2.1 ≠ wAuto /\ Ru.lowS t.2.1 ≠ wInitial /\ Ru.lowS t.2.1 ≠ wInherit)
def wrd (l : List Tok) : ByteArray := match l with
 | [t] => if t.1 = 2 then Ru.lowS t.2.1 else ⟨#[]⟩
 | _ => ⟨#[]⟩
def look {α : Type} : List (ByteArray × α) -> ByteArray -> Option α
 | [], _ => none
 | p :: r, s => if p.1 = s then some p.2 else look r s
def styles : List (ByteArray × Int) := [
 (⟨#[100, 101, 99, 105, 109, 97, 108]⟩, 0),
 (⟨#[100, 101, 99, 105, 109, 97, 108, 45, 108, 101, 97, 100, 105, 110, 103, 45, 122, 101, 114, 111]⟩, 1),
 (⟨#[108, 111, 119, 101, 114, 45, 114, 111, 109, 97, 110]⟩, 2),
 (⟨#[117, 112, 112, 101, 114, 45, 114, 111, 109, 97, 110]⟩, 3),
 (⟨#[108, 111, 119, 101, 114, 45, 97, 108, 112, 104, 97]⟩, 4),
 (⟨#[108, 111, 119, 101, 114, 45, 108, 97, 116, 105, 110]⟩, 4),
 (⟨#[117, 112, 112, 101, 114, 45, 97, 108, 112, 104, 97]⟩, 5),
 (⟨#[117, 112, 112, 101, 114, 45, 108, 97, 116, 105, 110]⟩, 5),
 (⟨#[108, 111, 119, 101, 114, 45, 103, 114, 101, 101, 107]⟩, 6),
 (wNone, 7)]
def whichs : List (ByteArray × Int) := [
 (⟨#[102, 105, 114, 115, 116]⟩, 1),
 (⟨#[115, 116, 97, 114, 116]⟩, 2),
 (⟨#[108, 97, 115, 116]⟩, 3),
 (⟨#[102, 105, 114, 115, 116, 45, 101, 120, 99, 101, 112, 116]⟩, 4)]
def breaks : List (ByteArray × Int) := [
 (wAuto, 0),
 (⟨#[97, 118, 111, 105, 100]⟩, 1),
 (⟨#[97, 118, 111, 105, 100, 45, 112, 97, 103, 101]⟩, 1),
 (⟨#[112, 97, 103, 101]⟩, 2),
 (⟨#[97, 108, 119, 97, 121, 115]⟩, 2),
 (⟨#[108, 101, 102, 116]⟩, 3),
 (⟨#[118, 101, 114, 115, 111]⟩, 3),
 (⟨#[114, 105, 103, 104, 116]⟩, 4),
 (⟨#[114, 101, 99, 116, 111]⟩, 4)]
def units : List (ByteArray × Int × Int) := [
 (⟨#[112, 120]⟩, 1, 1),
 (⟨#[112, 116]⟩, 4, 3),
 (⟨#[112, 99]⟩, 16, 1),
 (⟨#[105, 110]⟩, 96, 1),
 (⟨#[99, 109]⟩, 9600, 254),
 (⟨#[109, 109]⟩, 9600, 2540)]
theorem wrd_one {t : Tok} (h : t.1 = 2) : wrd [t] = Ru.lowS t.2.1 := by unfold wrd; exact if_pos h
abbrev Itm := Int × ByteArray × ByteArray × Int × Int
abbrev Stp := ByteArray × Int × List Itm
abbrev Prt := Tok × List Tok
def lst (r : List Tok) (ws : List (ByteArray × Int)) (u : Int) : Option Int := if r = [] then some u else look ws (wrd r)
def mkCounter (l : List Tok) : Option Itm := match l with
 | x :: r => if nam x = true then (lst r styles 0).map fun s => (2, ⟨#[]⟩, x.2.1, s, 0) else none
 | [] => none
def mkCounters (l : List Tok) : Option Itm := match l with
 | x :: y :: r => if nam x = true /\ y.1 = 6 then (lst r styles 0).map fun s => (3, y.2.1, x.2.1, s, 0) else none
 | _ => none
def mkAssigned (kd : Int) (l : List Tok) : Option Itm := match l with
 | x :: r => if nam x = true then (lst r whichs 1).map fun s => (kd, ⟨#[]⟩, x.2.1, 0, s) else none
 | [] => none
def mkAttr (l : List Tok) : Option Itm := match l with
 | [x] => if nam x = true then some (6, ⟨#[]⟩, x.2.1, 0, 0) else none
 | _ => none
def mkWhole (l : List Tok) : Option Itm := if l = [] then some (6, ⟨#[]⟩, ⟨#[]⟩, 0, 0) else none
def mk (own : Bool) (f : ByteArray) (l : List Tok) : Option Itm :=
 if f = wCounter then mkCounter l else if f = wCounters then mkCounters l else if f = wString then mkAssigned 4 l else if f = wElement then mkAssigned 5 l
 else if f = wAttr then mkAttr l else if own = true /\ f = wContent then mkWhole l else none
def alt : List Tok -> Option (List Tok)
 | [] => none
 | [x] => if isO x ∨ x.1 = 16 then none else some [x]
 | x :: c :: r => if isO x ∨ x.1 = 16 ∨ c.1 ≠ 16 then none else (alt r).map fun l => x :: l
def args (m : List Tok) : Option (List Tok) := if m = [] then some [] else alt m
def itm (own : Bool) (p : Prt) : Option Itm :=
 if p.1.1 = 6 then some (1, p.1.2.1, ⟨#[]⟩, 0, 0) else if p.1.1 = 3 then (args p.2).bind (mk own (Ru.lowS p.1.2.1)) else none
def seqO {α β : Type} (f : α -> Option β) : List α -> Option (List β)
 | [] => some []
 | a :: r => (f a).bind fun b => (seqO f r).map fun bs => b :: bs
section
variable {α β γ : Type} {f : α -> Option β}
theorem seqO_cons (a : α) (r : List α) : seqO f (a :: r) = (f a).bind fun b => (seqO f r).map fun bs => b :: bs := rfl
theorem seqO_app : ∀ (a b : List α), seqO f (a ++ b) = (seqO f a).bind fun x => (seqO f b).map fun y => x ++ y
 | [], b => by
   show seqO f b = (some []).bind fun x => (seqO f b).map fun y => x ++ y
   cases seqO f b <;> rfl
 | a :: r, b => by
   rw [List.cons_append, seqO_cons, seqO_cons, seqO_app r b]
   cases f a with
   | none => rfl
   | some y =>
     cases seqO f r with
     | none => rfl
     | some z => cases seqO f b <;> rfl
theorem seqO_snoc {a : List α} {x : α} {l : List β} {y : β} (h : seqO f a = some l) (hx : f x = some y) : seqO f (a ++ [x]) = some (l ++ [y]) := by
 rw [seqO_app, h, seqO_cons, hx]; rfl
theorem seqO_bad {l : List α} {x : α} (hm : x ∈ l) (hx : f x = none) : seqO f l = none := by
 induction l with
 | nil => cases hm
 | cons a r ih =>
   rw [seqO_cons]
   rcases List.mem_cons.1 hm with rfl | hm
   ·rw [hx]; rfl
   ·rw [ih hm]
    cases f a <;> rfl
theorem seqO_len : ∀ {l : List α} {bs : List β}, seqO f l = some bs -> bs.length = l.length
 | [], bs, h => by cases h; rfl
 | a :: r, bs, h => by
   rw [seqO_cons] at h
   cases h1 : f a with
   | none => rw [h1] at h; cases h
   | some y =>
     cases h2 : seqO f r with
     | none => rw [h1, h2] at h; cases h
     | some z =>
       rw [h1, h2] at h
       cases h
       rw [List.length_cons, List.length_cons, seqO_len h2]
theorem seqO_congr {g : α -> Option β} : ∀ {l : List α}, (∀ x ∈ l, f x = g x) -> seqO f l = seqO g l
 | [], _ => rfl
 | a :: r, h => by rw [seqO_cons, seqO_cons, h a (by simp), seqO_congr fun x hx => h x (List.mem_cons_of_mem _ hx)]
theorem seqO_map (g : γ -> α) : ∀ (l : List γ), seqO f (l.map g) = seqO (fun x => f (g x)) l
 | [] => rfl
 | a :: r => by rw [List.map_cons, seqO_cons, seqO_cons, seqO_map g r]
end
def some_ {β : Type} (o : Option (List β)) : Option (List β) := match o with
 | some (x :: r) => some (x :: r)
 | _ => none
def its (own : Bool) (ps : List Prt) : Option (List Itm) := some_ (seqO (itm own) ps)
theorem spl_nil (p : Nat -> Bool) (z b : Nat) : spl p z [] b = [(b, z)] := rfl
theorem spl_yes {p : Nat -> Bool} {z a b : Nat} {r : List Nat} (h : p a = true /\ b <= a) : spl p z (a :: r) b = (b, a) :: spl p z r (a + 1) := by rw [spl, if_pos h]
theorem spl_no {p : Nat -> Bool} {z a b : Nat} {r : List Nat} (h : ¬ (p a = true /\ b <= a)) : spl p z (a :: r) b = spl p z r b := by rw [spl, if_neg h]
theorem spl_first (p : Nat -> Bool) (z : Nat) : ∀ (l : List Nat) (b c : Nat), (∀ x ∈ l, c <= x) -> c <= z -> ∃ y, (b, y) ∈ spl p z l b /\ c <= y
 | [], b, c, _, hz => ⟨z, by rw [spl]; simp, hz⟩
 | a :: r, b, c, h, hz => by
   rw [spl]
   by_cases hp : p a = true /\ b <= a
   ·rw [if_pos hp]
    exact ⟨a, by simp, h a (by simp)⟩
   ·rw [if_neg hp]
    exact spl_first p z r b c (fun x hx => h x (List.mem_cons_of_mem _ hx)) hz
def isC (L : List Tok) (x : Nat) : Bool := decide ((tk L x).1 = 16)
theorem plc_ge {es : List Int} {z a x : Nat} (h : x ∈ plc es z a) : a <= x := (plc_mem (z - a) (Nat.le_refl _) h).1
section
variable {L : List Tok}
theorem alt_spl {o : List Nat} {e : Nat} (he : e <= L.length) (H : ∀ j, j < e -> opn L j = o -> ¬ closes L (opn L j) j) : ∀ (n a : Nat), e - a <= n -> a < e -> opn L a = o -> (∀ x ∈ plc (ends L) e a, Ru.g (ends L) x < e) ->
 alt (seg L a e) = if (∀ q ∈ spl (isC L) e (plc (ends L) e a) a, q.2 = q.1 + 1) then some ((spl (isC L) e (plc (ends L) e a) a).map fun q => tk L q.1) else none
 | 0, a, hn, ha, _, _ => by omega
 | n + 1, a, hn, ha, ho, hall => by
   have hel := ends_len L
   have es := sk_eq (ends L) a
   have hpl : plc (ends L) e a = a :: plc (ends L) e (sk (ends L) a) := plc_on ha
   have hsg : seg L a e = tk L a :: seg L (a + 1) e := seg_on ha (by omega)
   by_cases h1 : isO (tk L a)
   ·have hlt := hall a (by rw [hpl]; simp)
    have hr := ends_range (ts := L) (k := a) (by omega)
    have hg : Ru.g (ends L) a = (ends L).getD a 0 := rfl
    have hgt : (a : Int) < Ru.g (ends L) a := by
     rcases hr with h | h
     ·exact absurd h1 h.1
     ·rw [hg]; exact h.2.1
    rw [skp_yes (by omega) (by omega) (by rw [Int.toNat_natCast]; omega), Int.toNat_natCast] at es
    have h16 : ¬ isC L a = true := by
     intro h
     have h := of_decide_eq_true h
     unfold isO at h1
     exact absurd (not_O (by omega) (by omega)) (fun h2 => h2 h1)
    rw [hpl, spl_no (fun h => h16 h.1)]
    obtain ⟨y, hy, hcy⟩ := spl_first (isC L) e (plc (ends L) e (sk (ends L) a)) a (a + 2) (fun x hx => by have := plc_ge hx; omega) (by omega)
    rw [if_neg (fun h => by have := h _ hy; simp only at this; omega), hsg, seg_on (show a + 1 < e by omega) (by omega), alt, if_pos (.inl h1)]
   ·have hen := ends_none (show a < L.length by omega) h1
    rw [skp_no (fun c => by have := c.2.2; rw [Int.toNat_natCast, hen] at this; omega)] at es
    have hsk : sk (ends L) a = a + 1 := by omega
    rw [hsk] at hpl
    by_cases h16 : (tk L a).1 = 16
    ·have hc : isC L a = true := decide_eq_true h16
     rw [hpl, spl_yes ⟨hc, Nat.le_refl _⟩, if_neg (fun h => by have := h (a, a) (by simp); simp only at this; omega), hsg]
     by_cases h2 : a + 1 < e
     ·rw [seg_on h2 (by omega), alt, if_pos (.inr (.inl h16))]
     ·rw [seg_end (by omega), alt, if_pos (.inr h16)]
    ·have hc : ¬ isC L a = true := fun h => h16 (of_decide_eq_true h)
     have ho1 : opn L (a + 1) = o := by rw [opn_keep h1 (H a ha ho), ho]
     rw [hpl, spl_no (fun h => hc h.1), hsg]
     by_cases h2 : a + 1 < e
     ·have hpl2 : plc (ends L) e (a + 1) = (a + 1) :: plc (ends L) e (sk (ends L) (a + 1)) := plc_on h2
      have es2 := sk_eq (ends L) (a + 1)
      rw [seg_on h2 (by omega)]
      by_cases hc16 : (tk L (a + 1)).1 = 16
      ·have hcc : isC L (a + 1) = true := decide_eq_true hc16
       have hO2 : ¬ isO (tk L (a + 1)) := not_O (by omega) (by omega)
       have hen2 := ends_none (show a + 1 < L.length by omega) hO2
       rw [skp_no (fun c => by have := c.2.2; rw [Int.toNat_natCast, hen2] at this; omega)] at es2
       have hsk2 : sk (ends L) (a + 1) = a + 2 := by omega
       rw [hsk2] at hpl2
       rw [hpl2, spl_yes ⟨hcc, Nat.le_succ a⟩, alt, if_neg (by rintro (h | h | h); exact h1 h; exact h16 h; exact h hc16)]
       by_cases h3 : a + 2 < e
       ·have ih := alt_spl he H n (a + 2) (by omega) h3 (by rw [opn_keep hO2 (H (a + 1) h2 ho1), ho1]) (fun x hx => hall x (by rw [hpl, hpl2]; exact List.mem_cons_of_mem _ (List.mem_cons_of_mem _ hx)))
        rw [show a + 1 + 1 = a + 2 from rfl, ih]
        by_cases hq : ∀ q ∈ spl (isC L) e (plc (ends L) e (a + 2)) (a + 2), q.2 = q.1 + 1
        ·rw [if_pos hq, if_pos (by
          intro q hm
          rcases List.mem_cons.1 hm with rfl | hm
          ·rfl
          ·exact hq q hm)]
         rfl
        ·rw [if_neg hq, if_neg (fun h => hq fun q hm => h q (List.mem_cons_of_mem _ hm))]; rfl
       ·rw [show a + 1 + 1 = a + 2 from rfl, seg_end (show e <= a + 2 by omega), plc_end h3, spl_nil, if_neg (fun h => by have := h (a + 2, e) (by simp); simp only at this; omega), alt]; rfl
      ·have hcc : ¬ isC L (a + 1) = true := fun h => hc16 (of_decide_eq_true h)
       have hg := sk_gt (ends L) (a + 1)
       rw [hpl2, spl_no (fun h => hcc h.1)]
       obtain ⟨y, hy, hcy⟩ := spl_first (isC L) e (plc (ends L) e (sk (ends L) (a + 1))) a (a + 2) (fun x hx => by have := plc_ge hx; omega) (by omega)
       rw [if_neg (fun h => by have := h _ hy; simp only at this; omega), alt, if_pos (.inr (.inr hc16))]
     ·obtain rfl : e = a + 1 := by omega
      rw [seg_end (Nat.le_refl _), plc_end (Nat.lt_irrefl _), spl_nil, if_pos (by intro q hq; rcases List.mem_cons.1 hq with rfl | hq; rfl; cases hq), alt, if_neg (by rintro (h | h); exact h1 h; exact h16 h)]; rfl
theorem args_spl {b e : Nat} (hO : isO (tk L b)) (hb : b < L.length) (he : Ru.g (ends L) b = (e : Int)) (hlt : e < L.length) (hbe : b + 1 < e) :
 args (arg L b) = if (∀ q ∈ spl (isC L) e (plc (ends L) e (b + 1)) (b + 1), q.2 = q.1 + 1) then some ((spl (isC L) e (plc (ends L) e (b + 1)) (b + 1)).map fun q => tk L q.1) else none := by
 have hp := parts_in hO hb he hlt
 have hi := end_is hO hb he hlt
 have ht := opn_till hO hi.1 hi.2.1 hi.2.2
 have H : ∀ j, j < e -> opn L j = opn L b ++ [b] -> ¬ closes L (opn L j) j := fun j hj ho hc => by
  have htop : top (opn L j) = b := by rw [ho]; unfold top; rw [List.getLastD_concat]
  have := end_at (by omega) hc htop
  omega
 have h := alt_spl (show e <= L.length by omega) H e (b + 1) (by omega) hbe (opn_push hO) hp.2.1
 have ha : arg L b = seg L (b + 1) e := by unfold arg; rw [if_neg (by omega), he, Int.toNat_natCast]
 have hne : seg L (b + 1) e ≠ [] := by rw [seg_on hbe (by omega)]; simp
 unfold args
 rw [ha, if_neg hne, h]
def itmAt (own : Bool) (L : List Tok) (x : Nat) : Option Itm := if isO (tk L x) /\ Ru.g (ends L) x = L.length then none else itm own (tk L x, arg L x)
theorem parts_seqO (own : Bool) (L : List Tok) : (parts L).bind (seqO (itm own)) = seqO (itmAt own L) (plc (ends L) L.length 0) := by
 rw [parts_all]
 by_cases h : ∀ x ∈ plc (ends L) L.length 0, Ru.g (ends L) x < L.length
 ·rw [if_pos h]
  show seqO (itm own) _ = _
  rw [seqO_map]
  refine seqO_congr fun x hx => ?_
  unfold itmAt
  rw [if_neg (fun hc => by have := h x hx; omega)]
 ·rw [if_neg h]
  have h' : ∃ x ∈ plc (ends L) L.length 0, ¬ Ru.g (ends L) x < L.length := Decidable.of_not_not fun hn => h fun x hx => Decidable.of_not_not fun hc => hn ⟨x, hx, hc⟩
  obtain ⟨x, hx, hge⟩ := h'
  have hlt := (plc_mem _ (Nat.le_refl _) hx).2
  have hr := ends_range (ts := L) hlt
  have hg : Ru.g (ends L) x = (ends L).getD x 0 := rfl
  show none = _
  rw [seqO_bad hx]
  unfold itmAt
  rcases hr with h2 | h2
  ·omega
  ·rw [if_pos ⟨h2.1, by omega⟩]
end
end Vl
namespace Vl
open Tk Ns
def rgs : List Tok -> Option (List Tok)
 | [] => none
 | [x] => if x.1 = 16 then none else some [x]
 | x :: c :: r => if x.1 = 16 ∨ c.1 ≠ 16 then none else (rgs r).map fun l => x :: l
theorem isO_16 {t : Tok} (h : isO t) : t.1 ≠ 16 := fun h2 => not_O (by omega) (by omega) h
theorem isO_2 {t : Tok} (h : isO t) : t.1 ≠ 2 := fun h2 => not_O (by omega) (by omega) h
theorem isO_6 {t : Tok} (h : isO t) : t.1 ≠ 6 := fun h2 => not_O (by omega) (by omega) h
theorem isO_1 {t : Tok} (h : isO t) : t.1 ≠ 1 := fun h2 => not_O (by omega) (by omega) h
def noO (l : List Tok) : Option (List Tok) := if ∀ t ∈ l, ¬ isO t then some l else none
theorem alt_rgs : ∀ (n : Nat) (m : List Tok), m.length <= n -> ∀ ps, parts m = some ps -> alt m = (rgs (ps.map (·.1))).bind noO
 | _, [], _, ps, h => by rw [parts_nil] at h; cases h; rfl
 | 0, t :: l, hn, _, _ => by simp at hn
 | n + 1, [x], _, ps, h => by
   by_cases h1 : isO x
   ·rw [parts_none h1 (by rw [cut])] at h; cases h
   ·rw [parts_plain h1, parts_nil] at h
    cases h
    show alt [x] = (rgs [x]).bind noO
    rw [alt, rgs]
    by_cases h16 : x.1 = 16
    ·rw [if_pos (.inr h16), if_pos h16]; rfl
    ·rw [if_neg (by rintro (h | h); exact h1 h; exact h16 h), if_neg h16]
     show some [x] = noO [x]
     unfold noO
     rw [if_pos (by intro t ht; rcases List.mem_cons.1 ht with rfl | ht; exact h1; cases ht)]
 | n + 1, x :: c :: r, hn, ps, h => by
   by_cases h1 : isO x
   ·have hal : alt (x :: c :: r) = none := by rw [alt, if_pos (.inl h1)]
    cases hc : cut [clo x] (c :: r) with
    | none => rw [parts_none h1 hc] at h; cases h
    | some p =>
      obtain ⟨m, r'⟩ := p
      rw [parts_open h1 hc] at h
      cases hq : parts r' with
      | none => rw [hq] at h; cases h
      | some qs =>
        rw [hq] at h
        cases h
        rw [hal, List.map_cons]
        have bad : ∀ l : List Tok, noO (x :: l) = none := fun l => by unfold noO; rw [if_neg (fun h => h x (by simp) h1)]
        cases hm : qs.map (·.1) with
        | nil => rw [rgs, if_neg (isO_16 h1)]; exact (bad []).symm
        | cons y ys =>
          rw [rgs]
          split
          ·rfl
          ·cases rgs ys with
           | none => rfl
           | some l => exact (bad l).symm
   ·rw [parts_plain h1] at h
    by_cases h2 : isO c
    ·have hal : alt (x :: c :: r) = none := by rw [alt, if_pos (.inr (.inr (isO_16 h2)))]
     rw [hal]
     cases hc : cut [clo c] r with
     | none => rw [parts_none h2 hc] at h; cases h
     | some p =>
       obtain ⟨m, r'⟩ := p
       rw [parts_open h2 hc] at h
       cases hq : parts r' with
       | none => rw [hq] at h; cases h
       | some qs =>
         rw [hq] at h
         cases h
         rw [List.map_cons, List.map_cons, rgs, if_pos (.inr (isO_16 h2))]; rfl
    ·rw [parts_plain h2] at h
     cases hq : parts r with
     | none => rw [hq] at h; cases h
     | some qs =>
       rw [hq] at h
       cases h
       have ih := alt_rgs n r (by simp at hn; omega) qs hq
       rw [List.map_cons, List.map_cons]
       show _ = (rgs (x :: c :: qs.map (·.1))).bind noO
       rw [alt, rgs]
       by_cases hb : x.1 = 16 ∨ c.1 ≠ 16
       ·rw [if_pos (.inr hb), if_pos hb]; rfl
       ·rw [if_neg (by rintro (h | h); exact h1 h; exact hb h), if_neg hb, ih]
        cases hg : rgs (qs.map (·.1)) with
        | none => rfl
        | some l =>
          show (noO l).map (fun l => x :: l) = noO (x :: l)
          unfold noO
          by_cases hl : ∀ t ∈ l, ¬ isO t
          ·rw [if_pos hl, if_pos (by
            intro t ht
            rcases List.mem_cons.1 ht with rfl | ht
            ·exact h1
            ·exact hl t ht)]; rfl
          ·rw [if_neg hl, if_neg (fun h => hl fun t ht => h t (List.mem_cons_of_mem _ ht))]; rfl
theorem look_nil {ws : List (ByteArray × Int)} (h : ∀ p ∈ ws, p.1 ≠ ⟨#[]⟩) : look ws ⟨#[]⟩ = none := by
 induction ws with
 | nil => rfl
 | cons p r ih =>
   rw [look, if_neg (h p (by simp))]
   exact ih fun q hq => h q (List.mem_cons_of_mem _ hq)
theorem styles_ne : ∀ p ∈ styles, p.1 ≠ ⟨#[]⟩ := by decide
theorem whichs_ne : ∀ p ∈ whichs, p.1 ≠ ⟨#[]⟩ := by decide
theorem breaks_ne : ∀ p ∈ breaks, p.1 ≠ ⟨#[]⟩ := by decide
theorem wrd_no {l : List Tok} (h : ∀ t, l = [t] -> t.1 ≠ 2) : wrd l = ⟨#[]⟩ := by
 unfold wrd
 split
 ·exact if_neg (h _ rfl)
 ·rfl
theorem nam_2 {t : Tok} (h : nam t = true) : t.1 = 2 := (of_decide_eq_true h).1
theorem nam_O {t : Tok} (h : isO t) : nam t = false := by
 cases hn : nam t with
 | false => rfl
 | true => exact absurd (nam_2 hn) (isO_2 h)
theorem lst_O {r : List Tok} {ws : List (ByteArray × Int)} {u : Int} (hw : ∀ p ∈ ws, p.1 ≠ ⟨#[]⟩) {t : Tok} (hm : t ∈ r) (h : isO t) : lst r ws u = none := by
 unfold lst
 rw [if_neg (by rintro rfl; cases hm), wrd_no (fun s hs => by rw [hs] at hm; rw [<- List.mem_singleton.1 hm]; exact isO_2 h), look_nil hw]
theorem mk_O {own : Bool} {f : ByteArray} {l : List Tok} {t : Tok} (hm : t ∈ l) (h : isO t) : mk own f l = none := by
 have c1 : mkCounter l = none := by
  unfold mkCounter
  split
  ·rename_i x r
   split
   ·rename_i hn
    rcases List.mem_cons.1 hm with rfl | hm
    ·rw [nam_O h] at hn; cases hn
    ·rw [lst_O styles_ne hm h]; rfl
   ·rfl
  ·rfl
 have c2 : mkCounters l = none := by
  unfold mkCounters
  split
  ·rename_i x y r
   split
   ·rename_i hn
    rcases List.mem_cons.1 hm with rfl | hm
    ·rw [nam_O h] at hn; cases hn.1
    ·rcases List.mem_cons.1 hm with rfl | hm
     ·exact absurd hn.2 (isO_6 h)
     ·rw [lst_O styles_ne hm h]; rfl
   ·rfl
  ·rfl
 have c3 : ∀ k, mkAssigned k l = none := fun k => by
  unfold mkAssigned
  split
  ·rename_i x r
   split
   ·rename_i hn
    rcases List.mem_cons.1 hm with rfl | hm
    ·rw [nam_O h] at hn; cases hn
    ·rw [lst_O whichs_ne hm h]; rfl
   ·rfl
  ·rfl
 have c4 : mkAttr l = none := by
  unfold mkAttr
  split
  ·rename_i x
   obtain rfl : t = x := by simpa using hm
   rw [if_neg (by rw [nam_O h]; simp)]
  ·rfl
 have c5 : mkWhole l = none := by unfold mkWhole; rw [if_neg (by rintro rfl; cases hm)]
 unfold mk
 rw [c1, c2, c3, c3, c4, c5]
 simp
theorem mk_own {f : ByteArray} {l : List Tok} (h : l ≠ []) (own : Bool) : mk own f l = mk false f l := by
 have c5 : mkWhole l = none := by unfold mkWhole; rw [if_neg h]
 unfold mk
 rw [c5]
 simp
theorem mk_nil (f : ByteArray) : mk false f [] = none := by
 unfold mk
 rw [show mkCounter [] = none from rfl, show mkCounters [] = none from rfl, show mkAssigned 4 [] = none from rfl, show mkAssigned 5 [] = none from rfl, show mkAttr [] = none from rfl]
 simp
theorem mk_nil_own (f : ByteArray) : mk true f [] = if f = wContent then some (6, ⟨#[]⟩, ⟨#[]⟩, 0, 0) else none := by
 unfold mk
 rw [show mkCounter [] = none from rfl, show mkCounters [] = none from rfl, show mkAssigned 4 [] = none from rfl, show mkAssigned 5 [] = none from rfl, show mkAttr [] = none from rfl, show mkWhole [] = some (6, ⟨#[]⟩, ⟨#[]⟩, 0, 0) from rfl]
 by_cases h : f = wContent
 ·subst h; decide
 ·rw [if_neg h]; simp [h]
def ritm (own : Bool) (p : Prt) (ts : List Tok) : Option Itm :=
 if own = true /\ p.1.1 = 3 /\ Ru.lowS p.1.2.1 = wContent /\ ts = [] then some (6, ⟨#[]⟩, ⟨#[]⟩, 0, 0)
 else if p.1.1 = 6 then some (1, p.1.2.1, ⟨#[]⟩, 0, 0) else if p.1.1 = 3 then (rgs ts).bind (mk false (Ru.lowS p.1.2.1)) else none
theorem ritm_itm (own : Bool) (t : Tok) (m : List Tok) (ps : List Prt) (h : parts m = some ps) : itm own (t, m) = ritm own (t, m) (ps.map (·.1)) := by
 unfold itm ritm
 by_cases h6 : t.1 = 6
 ·rw [if_pos h6, if_neg (fun hc => by have := hc.2.1; simp only at this; omega), if_pos h6]
 ·rw [if_neg h6, if_neg h6]
  by_cases h3 : t.1 = 3
  ·rw [if_pos h3, if_pos h3]
   by_cases hm : m = []
   ·subst hm
    rw [parts_nil] at h
    cases h
    show mk own (Ru.lowS t.2.1) [] = _
    cases own with
    | false => rw [mk_nil, if_neg (by simp)]; rfl
    | true =>
      rw [mk_nil_own]
      by_cases hf : Ru.lowS t.2.1 = wContent
      ·rw [if_pos hf, if_pos ⟨rfl, h3, hf, rfl⟩]
      ·rw [if_neg hf, if_neg (fun hc => hf hc.2.2.1)]; rfl
   ·have hne : ps ≠ [] := by
     rintro rfl
     cases m with
     | nil => exact hm rfl
     | cons x r =>
       by_cases h1 : isO x
       ·cases hc : cut [clo x] r with
        | none => rw [parts_none h1 hc] at h; cases h
        | some p =>
          obtain ⟨a, b⟩ := p
          rw [parts_open h1 hc] at h
          cases hq : parts b with
          | none => rw [hq] at h; cases h
          | some q => rw [hq] at h; cases h
       ·rw [parts_plain h1] at h
        cases hq : parts r with
        | none => rw [hq] at h; cases h
        | some q => rw [hq] at h; cases h
    rw [if_neg (fun hc => hne (by simpa using hc.2.2.2))]
    unfold args
    rw [if_neg hm, alt_rgs m.length m (Nat.le_refl _) ps h]
    cases hg : rgs (ps.map (·.1)) with
    | none => rfl
    | some l =>
      have hl : l ≠ [] := by
       rintro rfl
       cases hx : ps.map (·.1) with
       | nil => exact hne (by simpa using hx)
       | cons x r =>
         rw [hx] at hg
         match r, hg with
         | [], hg => rw [rgs] at hg; split at hg <;> cases hg
         | c :: r, hg =>
           rw [rgs] at hg
           split at hg
           ·cases hg
           ·cases hr : rgs r with
            | none => rw [hr] at hg; cases hg
            | some z => rw [hr] at hg; cases hg
      show (noO l).bind _ = mk false _ l
      unfold noO
      by_cases hO : ∀ t ∈ l, ¬ isO t
      ·rw [if_pos hO]
       exact mk_own hl own
      ·rw [if_neg hO]
       have h' : ∃ x ∈ l, isO x := Decidable.of_not_not fun hn => hO fun x hx hc => hn ⟨x, hx, hc⟩
       obtain ⟨x, hx, hxO⟩ := h'
       exact (mk_O hx hxO).symm
  ·rw [if_neg h3, if_neg (fun hc => h3 hc.2.1), if_neg h3]
theorem parts_closed {L : List Tok} {ps : List Prt} (h : parts L = some ps) : ∀ p ∈ ps, ∃ qs, parts p.2 = some qs := by
 rw [parts_all] at h
 split at h
 ·rename_i hall
  cases h
  intro p hp
  obtain ⟨x, hx, rfl⟩ := List.mem_map.1 hp
  have hlt := (plc_mem _ (Nat.le_refl _) hx).2
  by_cases h1 : isO (tk L x)
  ·have hr := ends_range (ts := L) hlt
   have hg : Ru.g (ends L) x = (ends L).getD x 0 := rfl
   have h2 : (x : Int) < Ru.g (ends L) x := by
    rcases hr with h | h
    ·exact absurd h1 h.1
    ·rw [hg]; exact h.2.1
   have hz := hall x hx
   have h3 := parts_in (L := L) (b := x) (e := (Ru.g (ends L) x).toNat) h1 hlt (by omega) (by omega)
   have ha : arg L x = seg L (x + 1) (Ru.g (ends L) x).toNat := by unfold arg; rw [if_neg (by omega)]
   exact ⟨_, by show parts (arg L x) = _; rw [ha]; exact h3.2.2⟩
  ·refine ⟨[], ?_⟩
   show parts (arg L x) = _
   unfold arg
   rw [ends_none hlt h1, if_pos (by omega), parts_nil]
 ·cases h
theorem G_map (ps : List Prt) : GF ps = (G ps).map fun p => (p.1, F p.2) := rfl
theorem GF_fst (ps : List Prt) : (GF ps).map (·.1) = (G ps).map (·.1) := by
 unfold GF
 rw [List.map_map]; rfl
theorem G_G (ps : List Prt) : G (G ps) = G ps := by unfold G; rw [List.filter_filter]; simp
theorem G_mem {ps : List Prt} {p : Prt} (h : p ∈ G ps) : p ∈ ps /\ p.1.1 ≠ 1 := by
 unfold G at h
 rw [List.mem_filter] at h
 exact ⟨h.1, by simpa using h.2⟩
def rin (p : Prt) : List Tok := match parts p.2 with
 | some qs => (G qs).map (·.1)
 | none => []
theorem ritm_all (own : Bool) {L : List Tok} {ps : List Prt} (h : parts L = some ps) : seqO (itm own) (GF ps) = seqO (fun p => ritm own p (rin p)) (G ps) := by
 rw [G_map, seqO_map]
 refine seqO_congr fun p hp => ?_
 obtain ⟨qs, hq⟩ := parts_closed h p (G_mem hp).1
 have hF : parts (F p.2) = some (GF qs) := by rw [parts_F p.2.length p.2 (Nat.le_refl _), hq]; rfl
 show itm own (p.1, F p.2) = _
 rw [ritm_itm own p.1 (F p.2) (GF qs) hF, GF_fst]
 unfold rin
 rw [hq]
 rfl
end Vl
namespace Vl
open Tk Ns
instance (L : List Tok) : Decidable (deep L) := by unfold deep; infer_instance
def rd (v : List Tok) : List Tok := if deep (F v) then [] else F v
def rpt (v : List Tok) : Option (List Prt) := if deep v then none else (parts v).map G
theorem deep_F (v : List Tok) : deep (F v) ↔ deep v := by rw [deep_iff, deep_iff, dp_F]
theorem parts_all_F (v : List Tok) : parts (F v) = (parts v).map GF := parts_F v.length v (Nat.le_refl _)
def fs (ps : List Prt) : List Tok := ps.map (·.1)
theorem fs_GF (ps : List Prt) : fs (GF ps) = fs (G ps) := GF_fst ps
theorem wrd_nil : wrd [] = ⟨#[]⟩ := rfl
theorem wrd_two (t u : Tok) (r : List Tok) : wrd (t :: u :: r) = ⟨#[]⟩ := rfl
theorem parts_cons {t : Tok} {r : List Tok} {ps : List Prt} (h : parts (t :: r) = some ps) : (isO t /\ ∃ m r' qs, cut [clo t] r = some (m, r') /\ parts r' = some qs /\ ps = (t, m) :: qs) ∨ (¬ isO t /\ ∃ qs, parts r = some qs /\ ps = (t, []) :: qs) := by
 by_cases h1 : isO t
 ·left
  cases hc : cut [clo t] r with
  | none => rw [parts_none h1 hc] at h; cases h
  | some p =>
    obtain ⟨m, r'⟩ := p
    rw [parts_open h1 hc] at h
    cases hq : parts r' with
    | none => rw [hq] at h; cases h
    | some qs =>
      rw [hq] at h
      cases h
      exact ⟨h1, m, r', qs, rfl, hq, rfl⟩
 ·right
  rw [parts_plain h1] at h
  cases hq : parts r with
  | none => rw [hq] at h; cases h
  | some qs =>
    rw [hq] at h
    cases h
    exact ⟨h1, qs, rfl, rfl⟩
theorem parts_ne {t : Tok} {r : List Tok} {ps : List Prt} (h : parts (t :: r) = some ps) : ps ≠ [] := by
 rcases parts_cons h with ⟨_, m, r', qs, _, _, e⟩ | ⟨_, qs, _, e⟩ <;> rw [e] <;> simp
theorem wrd_fs {L : List Tok} {ps : List Prt} (h : parts L = some ps) : wrd (fs ps) = wrd L := by
 match L, h with
 | [], h => rw [parts_nil] at h; cases h; rfl
 | [t], h =>
   rcases parts_cons h with ⟨_, m, r', qs, hc, _, _⟩ | ⟨_, qs, hq, rfl⟩
   ·rw [cut] at hc; cases hc
   ·rw [parts_nil] at hq; cases hq; rfl
 | t :: u :: r, h =>
   rw [wrd_two]
   rcases parts_cons h with ⟨h1, m, r', qs, _, _, rfl⟩ | ⟨_, qs, hq, rfl⟩
   ·cases qs with
    | nil => exact wrd_no (fun s hs => by obtain rfl : t = s := by simpa [fs] using hs
                                          exact isO_2 h1)
    | cons q qs => rfl
   ·cases qs with
    | nil => exact absurd rfl (parts_ne hq)
    | cons q qs => rfl
theorem wrd_none {L : List Tok} (h : parts L = none) : wrd L = ⟨#[]⟩ := by
 match L, h with
 | [], h => rfl
 | [t], h =>
   refine wrd_no fun s hs h2 => ?_
   obtain rfl : t = s := by simpa using hs
   rw [parts_plain (not_O (by omega) (by omega)), parts_nil] at h; cases h
 | t :: u :: r, _ => rfl
def contentS (L : List Tok) : List Itm × Bool × Bool :=
 if wrd L = wNone ∨ wrd L = wNormal then ([], true, true) else match (parts L).bind (its false) with
  | some l => (l, false, true)
  | none => ([], false, false)
def rcontent (v : List Tok) : List Itm × Bool × Bool := match rpt v with
 | none => ([], false, false)
 | some P => if wrd (fs P) = wNone ∨ wrd (fs P) = wNormal then ([], true, true) else match some_ (seqO (fun p => ritm false p (rin p)) P) with
   | some l => (l, false, true)
   | none => ([], false, false)
theorem content_same (v : List Tok) : contentS (rd v) = rcontent v := by
 unfold rcontent rpt rd
 by_cases hd : deep v
 ·rw [if_pos hd, if_pos ((deep_F v).2 hd)]
  unfold contentS
  rw [wrd_nil, if_neg (by decide), parts_nil]; rfl
 ·rw [if_neg hd, if_neg (fun h => hd ((deep_F v).1 h))]
  have hp := parts_all_F v
  cases h : parts v with
  | none =>
    rw [h] at hp
    unfold contentS
    rw [wrd_none hp, if_neg (by decide), hp]; rfl
  | some ps =>
    rw [h] at hp
    have hp' : parts (F v) = some (GF ps) := hp
    show _ = if wrd (fs (G ps)) = wNone ∨ wrd (fs (G ps)) = wNormal then _ else _
    unfold contentS
    rw [<- fs_GF, wrd_fs hp', hp']
    show _ = if _ then _ else match some_ (seqO (fun p => ritm false p (rin p)) (G ps)) with
     | some l => (l, false, true)
     | none => ([], false, false)
    rw [<- ritm_all false h]; rfl
def cnt (n : Int) : Int := max (-2147483648) (min (n.tdiv 1000) 2147483647)
def whole (t : Tok) : Bool := decide (t.1 = 8 /\ t.2.2.tmod 1000 = 0)
def stp (u : Int) : List Tok -> Option (List Stp)
 | [] => some []
 | [x] => if nam x = true then some [(x.2.1, u, [])] else none
 | x :: y :: r => if nam x = true then (if whole y = true then (stp u r).map fun l => (x.2.1, cnt y.2.2, []) :: l else (stp u (y :: r)).map fun l => (x.2.1, u, []) :: l) else none
def stepsS (u : Int) (L : List Tok) : Option (List Stp) := if wrd L = wNone then some [] else some_ (stp u L)
def setN (out : List Stp) (n : Int) : List Stp := out.dropLast ++ (out.getLast?.map fun s => (s.1, n, s.2.2)).toList
def rst (u : Int) : Bool -> List Stp -> List Tok -> Option (List Stp)
 | _, out, [] => some out
 | pv, out, t :: r => if whole t = true /\ pv = true then rst u false (setN out (cnt t.2.2)) r else if nam t = true then rst u true (out ++ [(t.2.1, u, [])]) r else none
theorem rst_no {u : Int} {pv : Bool} {out : List Stp} {t : Tok} {r : List Tok} (h : ¬ whole t = true) : rst u pv out (t :: r) = if nam t = true then rst u true (out ++ [(t.2.1, u, [])]) r else none := by rw [rst, if_neg (fun hc => h hc.1)]
theorem nam_whole {t : Tok} (h : nam t = true) : ¬ whole t = true := fun hw => by
 have := nam_2 h
 have := (of_decide_eq_true hw).1
 omega
theorem setN_snoc (out : List Stp) (x : ByteArray) (u n : Int) : setN (out ++ [(x, u, [])]) n = out ++ [(x, n, [])] := by
 unfold setN
 rw [List.dropLast_concat, List.getLast?_concat]; rfl
theorem rst_stp (u : Int) : ∀ (n : Nat) (l : List Tok), l.length <= n -> ∀ out, rst u false out l = (stp u l).map fun z => out ++ z
 | _, [], _, out => by rw [rst, stp]; simp
 | 0, t :: l, hn, _ => by simp at hn
 | n + 1, [x], _, out => by
   rw [rst, if_neg (by simp), stp]
   by_cases h : nam x = true
   ·rw [if_pos h, if_pos h, rst]; rfl
   ·rw [if_neg h, if_neg h]; rfl
 | n + 1, x :: y :: r, hn, out => by
   rw [rst, if_neg (by simp), stp]
   by_cases h : nam x = true
   ·rw [if_pos h, if_pos h]
    by_cases hy : whole y = true
    ·rw [rst, if_pos ⟨hy, rfl⟩, if_pos hy, setN_snoc, rst_stp u n r (by simp at hn; omega), Option.map_map]
     congr 1
     funext z
     simp
    ·have e : rst u true (out ++ [(x.2.1, u, [])]) (y :: r) = rst u false (out ++ [(x.2.1, u, [])]) (y :: r) := by
      rw [rst_no hy, rst_no hy]
     rw [if_neg hy, e, rst_stp u n (y :: r) (by simp at hn ⊢; omega), Option.map_map]
     congr 1
     funext z
     simp
   ·rw [if_neg h, if_neg h]; rfl
theorem whole_O {t : Tok} (h : isO t) : ¬ whole t = true := fun hw => not_O (by have := (of_decide_eq_true hw).1; omega) (by have := (of_decide_eq_true hw).1; omega) h
theorem stp_O (u : Int) : ∀ (n : Nat) (l : List Tok), l.length <= n -> (∃ t ∈ l, isO t) -> stp u l = none
 | _, [], _, h => by obtain ⟨t, ht, _⟩ := h; cases ht
 | 0, t :: l, hn, _ => by simp at hn
 | n + 1, [x], _, h => by
   obtain ⟨t, ht, hO⟩ := h
   obtain rfl : t = x := by simpa using ht
   rw [stp, if_neg (by rw [nam_O hO]; simp)]
 | n + 1, x :: y :: r, hn, h => by
   rw [stp]
   by_cases hx : nam x = true
   ·rw [if_pos hx]
    obtain ⟨t, ht, hO⟩ := h
    have h2 : t ∈ y :: r := by
     rcases List.mem_cons.1 ht with rfl | ht
     ·rw [nam_O hO] at hx; cases hx
     ·exact ht
    by_cases hy : whole y = true
    ·rw [if_pos hy]
     have h3 : t ∈ r := by
      rcases List.mem_cons.1 h2 with rfl | h2
      ·exact absurd hy (whole_O hO)
      ·exact h2
     rw [stp_O u n r (by simp at hn; omega) ⟨t, h3, hO⟩]; rfl
    ·rw [if_neg hy, stp_O u n (y :: r) (by simp at hn ⊢; omega) ⟨t, h2, hO⟩]; rfl
   ·rw [if_neg hx]
theorem parts_noO : ∀ {L : List Tok}, (∀ t ∈ L, ¬ isO t) -> parts L = some (L.map fun t => (t, []))
 | [], _ => by rw [parts_nil]; rfl
 | t :: r, h => by rw [parts_plain (h t (by simp)), parts_noO (fun x hx => h x (List.mem_cons_of_mem _ hx))]; rfl
theorem dp_noO : ∀ {L : List Tok} (_ : ∀ t ∈ L, ¬ isO t), ¬ dp [] L
 | [], _ => fun h => by rw [dp] at h; exact h
 | t :: r, h => by
   rw [dp_keep (h t (by simp)) (fun c => by cases c.2)]
   exact dp_noO fun x hx => h x (List.mem_cons_of_mem _ hx)
theorem fs_noO (L : List Tok) : fs (L.map fun t => (t, [])) = L := by
 unfold fs
 rw [List.map_map]
 exact List.map_id L
theorem fs_O : ∀ (n : Nat) {L : List Tok}, L.length <= n -> ∀ {ps : List Prt}, parts L = some ps -> (∃ t ∈ L, isO t) -> ∃ t ∈ fs ps, isO t
 | _, [], _, _, _, h => by obtain ⟨t, ht, _⟩ := h; cases ht
 | 0, t :: l, hn, _, _, _ => by simp at hn
 | n + 1, t :: l, hn, ps, hp, h => by
   rcases parts_cons hp with ⟨h1, m, r', qs, _, _, rfl⟩ | ⟨h1, qs, hq, rfl⟩
   ·exact ⟨t, by simp [fs], h1⟩
   ·obtain ⟨x, hx, hO⟩ := h
    have hx2 : x ∈ l := by
     rcases List.mem_cons.1 hx with rfl | hx
     ·exact absurd hO h1
     ·exact hx
    obtain ⟨y, hy, hyO⟩ := fs_O n (by simp at hn; omega) hq ⟨x, hx2, hO⟩
    exact ⟨y, List.mem_cons_of_mem _ hy, hyO⟩
theorem flat_same {α : Type} (f : List Tok -> Option α) (h0 : f [] = none) (hO : ∀ l, (∃ t ∈ l, isO t) -> f l = none) (v : List Tok) : f (rd v) = (rpt v).bind fun P => f (fs P) := by
 unfold rpt rd
 by_cases hd : deep v
 ·rw [if_pos hd, if_pos ((deep_F v).2 hd), h0]; rfl
 ·rw [if_neg hd, if_neg (fun h => hd ((deep_F v).1 h))]
  have hp := parts_all_F v
  by_cases ho : ∃ t ∈ F v, isO t
  ·rw [hO _ ho]
   cases h : parts v with
   | none => rfl
   | some ps =>
     rw [h] at hp
     have hp' : parts (F v) = some (GF ps) := hp
     have := fs_O (F v).length (Nat.le_refl _) hp' ho
     rw [fs_GF] at this
     exact (hO _ this).symm
  ·have hn : ∀ t ∈ F v, ¬ isO t := fun t ht hc => ho ⟨t, ht, hc⟩
   rw [parts_noO hn] at hp
   cases h : parts v with
   | none => rw [h] at hp; cases hp
   | some ps =>
     rw [h] at hp
     have hp' : GF ps = (F v).map fun t => (t, []) := by
      have : some ((F v).map fun t => (t, ([] : List Tok))) = some (GF ps) := hp
      injection this with this
      exact this.symm
     show _ = f (fs (G ps))
     rw [<- fs_GF, hp', fs_noO]
def rsteps (u : Int) (l : List Tok) : Option (List Stp) := if l = [] then none else if wrd l = wNone then some [] else rst u false [] l
theorem rst_ne (u : Int) : ∀ (l : List Tok) (b : Bool) (out z : List Stp), rst u b out l = some z -> (out ≠ [] ∨ (l ≠ [] /\ b = false)) -> z ≠ []
 | [], b, out, z, h, hne => by
   rw [rst] at h
   cases h
   rcases hne with h | h
   ·exact h
   ·exact absurd rfl h.1
 | t :: r, b, out, z, h, hne => by
   rw [rst] at h
   split at h
   ·rename_i hc
    have ho : out ≠ [] := by
     rcases hne with h | h
     ·exact h
     ·rw [h.2] at hc; cases hc.2
    refine rst_ne u r _ _ z h (.inl ?_)
    unfold setN
    cases hl : out.getLast? with
    | none => exact absurd (List.getLast?_eq_none_iff.1 hl) ho
    | some s => simp
   ·split at h
    ·exact rst_ne u r _ _ z h (.inl (by simp))
    ·cases h
theorem steps_same (u : Int) (v : List Tok) : stepsS u (rd v) = (rpt v).bind fun P => rsteps u (fs P) := by
 have e : ∀ l, stepsS u l = rsteps u l := fun l => by
  unfold stepsS rsteps
  by_cases h0 : l = []
  ·subst h0; rfl
  ·rw [if_neg h0]
   by_cases hw : wrd l = wNone
   ·rw [if_pos hw, if_pos hw]
   ·rw [if_neg hw, if_neg hw]
    have h := rst_stp u l.length l (Nat.le_refl _) []
    simp only [List.nil_append, Option.map_id'] at h
    have h2 : rst u false [] l = stp u l := by rw [h]
    cases hz : rst u false [] l with
    | none => rw [<- h2, hz]; rfl
    | some z =>
      have := rst_ne u l false [] z hz (.inr ⟨h0, rfl⟩)
      rw [<- h2, hz]
      cases z with
      | nil => exact absurd rfl this
      | cons a r => rfl
 have h := flat_same (stepsS u) rfl (fun l hl => by
  unfold stepsS
  rw [stp_O u l.length l (Nat.le_refl _) hl, if_neg]
  ·rfl
  ·intro hw
   have h2 : wrd l = ⟨#[]⟩ := by
    obtain ⟨t, ht, hO⟩ := hl
    exact wrd_no fun s hs h2 => by rw [hs] at ht; rw [List.mem_singleton.1 ht] at hO; exact isO_2 hO h2
   rw [h2] at hw
   exact absurd hw (by decide)) v
 rw [h]
 congr 1
 funext P
 exact e _
def stop (n : Int) : Int := max (min n 1099511627776) (-1099511627776)
def len1 (t : Tok) : Option Int := if t.1 = 8 then (if t.2.2 = 0 then some 0 else none) else if t.1 = 10 then (look units (Ru.lowS t.2.1)).map fun q => stop ((stop t.2.2 * q.1).tdiv q.2) else none
def four : List Int -> List Int
 | [a] => [a, a, a, a]
 | [a, b] => [a, b, a, b]
 | [a, b, c] => [a, b, c, b]
 | l => l
def lengthsS (L : List Tok) : Option (List Int) := if L = [] ∨ 4 < L.length then none else (seqO len1 L).map four
theorem lengths_same (v : List Tok) : lengthsS (rd v) = (rpt v).bind fun P => lengthsS (fs P) := flat_same lengthsS (if_pos (.inl rfl)) (fun l ⟨t, ht, hO⟩ => by
 have h : len1 t = none := by
  unfold len1
  rw [if_neg (fun h => not_O (by omega) (by omega) hO), if_neg (fun h => not_O (by omega) (by omega) hO)]
 unfold lengthsS
 rw [seqO_bad ht h]
 split <;> rfl) v
theorem wrd_O {l : List Tok} (h : ∃ t ∈ l, isO t) : wrd l = ⟨#[]⟩ := by
 obtain ⟨t, ht, hO⟩ := h
 exact wrd_no fun s hs h2 => by rw [hs] at ht; rw [List.mem_singleton.1 ht] at hO; exact isO_2 hO h2
def breakS (L : List Tok) : Option Int := look breaks (wrd L)
theorem break_same (v : List Tok) : breakS (rd v) = (rpt v).bind fun P => breakS (fs P) := flat_same breakS (look_nil breaks_ne) (fun l h => by unfold breakS; rw [wrd_O h, look_nil breaks_ne]) v
def only (l : List Tok) : Option ByteArray := match l with
 | [x] => if nam x = true then some x.2.1 else none
 | _ => none
theorem only_O {l : List Tok} (h : ∃ t ∈ l, isO t) : only l = none := by
 obtain ⟨t, ht, hO⟩ := h
 unfold only
 split
 ·rename_i x
  obtain rfl : t = x := by simpa using ht
  rw [if_neg (by rw [nam_O hO]; simp)]
 ·rfl
def nameS (L : List Tok) : Option ByteArray := if wrd L = wAuto then some ⟨#[]⟩ else only L
theorem name_same (v : List Tok) : nameS (rd v) = (rpt v).bind fun P => nameS (fs P) := flat_same nameS (by decide) (fun l h => by unfold nameS; rw [wrd_O h, only_O h]; decide) v
def runP (own : List Tok -> Option ByteArray) (ps : List Prt) : Option ByteArray := match ps with
 | [(t, m)] => if t.1 = 3 /\ Ru.lowS t.2.1 = wRunning then own m else none
 | _ => none
def runS (L : List Tok) : Option ByteArray := if wrd L = wStatic then some ⟨#[]⟩ else (parts L).bind (runP fun m => (args m).bind only)
def rrun (v : List Tok) : Option ByteArray := (rpt v).bind fun P => if wrd (fs P) = wStatic then some ⟨#[]⟩ else (match P with
 | [p] => if p.1.1 = 3 /\ Ru.lowS p.1.2.1 = wRunning then only (rin p) else none
 | _ => none)
theorem args_only {m : List Tok} {qs : List Prt} (h : parts m = some qs) : (args m).bind only = only (fs qs) := by
 match m, h with
 | [], h => rw [parts_nil] at h; cases h; rfl
 | [x], h =>
   rcases parts_cons h with ⟨_, m, r', qs, hc, _, _⟩ | ⟨h1, qs, hq, rfl⟩
   ·rw [cut] at hc; cases hc
   ·rw [parts_nil] at hq; cases hq
    show (args [x]).bind only = only [x]
    unfold args
    rw [if_neg (by simp), alt]
    by_cases h16 : x.1 = 16
    ·rw [if_pos (.inr h16)]
     show none = if nam x = true then some x.2.1 else none
     rw [if_neg (fun hn => by have := nam_2 hn; omega)]
    ·rw [if_neg (by rintro (h | h); exact h1 h; exact h16 h)]; rfl
 | x :: c :: r, h =>
   have hl : (args (x :: c :: r)).bind only = none := by
    unfold args
    rw [if_neg (by simp), alt]
    split
    ·rfl
    ·cases hr : alt r with
     | none => rfl
     | some l =>
       cases l with
       | nil =>
         match r, hr with
         | [], hr => rw [alt] at hr; cases hr
         | [y], hr => rw [alt] at hr; split at hr <;> cases hr
         | y :: z :: r, hr =>
           rw [alt] at hr
           split at hr
           ·cases hr
           ·cases hz : alt r with
            | none => rw [hz] at hr; cases hr
            | some k => rw [hz] at hr; cases hr
       | cons a b => rfl
   rw [hl]
   rcases parts_cons h with ⟨h1, m, r', qs, _, _, rfl⟩ | ⟨_, qs, hq, rfl⟩
   ·exact (only_O ⟨x, by simp [fs], h1⟩).symm
   ·cases qs with
    | nil => exact absurd rfl (parts_ne hq)
    | cons q qs => rfl
theorem run_same (v : List Tok) : runS (rd v) = rrun v := by
 unfold rrun rpt rd
 by_cases hd : deep v
 ·rw [if_pos hd, if_pos ((deep_F v).2 hd)]
  unfold runS
  rw [wrd_nil, if_neg (by decide), parts_nil]; rfl
 ·rw [if_neg hd, if_neg (fun h => hd ((deep_F v).1 h))]
  have hp := parts_all_F v
  cases h : parts v with
  | none =>
    rw [h] at hp
    unfold runS
    rw [wrd_none hp, if_neg (by decide), hp]; rfl
  | some ps =>
    rw [h] at hp
    have hp' : parts (F v) = some (GF ps) := hp
    show _ = if wrd (fs (G ps)) = wStatic then _ else _
    unfold runS
    rw [<- fs_GF, wrd_fs hp', hp']
    split
    ·rfl
    ·show runP _ (GF ps) = _
     have hm : GF ps = (G ps).map fun p => (p.1, F p.2) := rfl
     cases hg : G ps with
     | nil => rw [hm, hg]; rfl
     | cons p r =>
       cases r with
       | nil =>
         rw [hm, hg]
         show (if p.1.1 = 3 /\ Ru.lowS p.1.2.1 = wRunning then (args (F p.2)).bind only else none) = _
         obtain ⟨qs, hq⟩ := parts_closed h p (G_mem (by rw [hg]; simp)).1
         have hF : parts (F p.2) = some (GF qs) := by rw [parts_all_F, hq]; rfl
         have hr : rin p = fs (G qs) := by unfold rin; rw [hq]; rfl
         rw [args_only hF, fs_GF, <- hr]
       | cons q r => rw [hm, hg]; rfl
end Vl
end Go.Proofs.Ytaofkaehhikfaaa
