/-
  Plain words of printing: what each token's text is, in characters; which tokens may be. No run of the program in this text.
-/
import Derived.Test.YtkcabpjfgbghjaaGreatDoorGac
import Derived.Test.YtkcabpjfgbghjaaGreatDoorGaa
import Derived.Lib.Strings
import Derived.Laws.IdiomStrings
import Derived.Laws.BytesArg
import Derived.Lib.MapLaws
import Derived.Lib.TrimUEq
import Derived.Lib.ValidU
import Derived.Test.YtkcabpjfgbghjaaGreatDoorGab
import Derived.Lib.OthersKept
import Derived.Lib.FrozenHead2
import Derived.Lib.Builder
import Derived.Shelf.Strings.BuilderX
import Derived.Shelf.Unicode.ValidAny
import Derived.Shelf.Spec.TrailingZeros
import Derived.Lib.TrailingZeros
import Derived.OneCell
import Derived.Laws.Bits64b
import Derived.LoopTactic
import Derived.Lib.LaidU8T
import Derived.Lib.Hide
import Derived.Lib.AppendIntMem
import Derived.Lib.SmallJoins
import Derived.Lib.ItoaLen
import Derived.BigGuard
import Derived.Deep.LoopGhost
import Derived.WalkSpells
import Derived.WalkLawsBesides
namespace Go.Proofs.YtkcabpjfgbghjaaGreatDoor
set_option maxHeartbeats 16000000
set_option maxRecDepth 100000
namespace Pr
open Ru Tk
def hexF : Nat -> Int -> List Int
 | 0, _ => []
 | f + 1, c => if c < 16 then [hx c] else hexF f (c / 16) ++ [hx (c % 16)]
def hexC (c : Int) : List Int := hexF 6 c
def escC (c : Int) : List Int := 92 :: (hexC c ++ [32])
theorem Is_isB {c : Int} (h : Is c) : isB c = true := isB_iff.2 h
theorem Is_lt {c : Int} (h : Is c) : 0 <= c /\ c <= 1114111 := by unfold Is at h; omega
def must (dim : Bool) (l : List Int) (i : Nat) : Bool :=
 !witB (g l i) || ((decide (48 <= g l i /\ g l i <= 57) && (decide (i = 0) || (decide (i = 1) && decide (g l 0 = 45)))) || (decide (l = [45]) || (dim && (decide (i = 0) && decide (g l i = 101 ∨ g l i = 69)))))
def piece (dim : Bool) (l : List Int) (i : Nat) : List Int := if must dim l i = true then escC (g l i) else [g l i]
def nmT (dim : Bool) (l : List Int) (k : Nat) : List Int := (List.range k).flatMap (piece dim l)
def nm (dim : Bool) (l : List Int) : List Int := nmT dim l l.length
def Ok (l : List Int) : Prop := ∀ c ∈ l, Is c /\ c ≠ 0
theorem Ok.at_ {l : List Int} (h : Ok l) {i : Nat} (hi : i < l.length) : Is (g l i) /\ g l i ≠ 0 := by rw [g_eq hi]; exact h _ (List.getElem_mem hi)
def spec (c : Int) : Prop := c = 34 ∨ c = 92 ∨ c = 10 ∨ c = 12 ∨ c = 13
instance (c : Int) : Decidable (spec c) := by unfold spec; exact inferInstance
end Pr
end Go.Proofs.YtkcabpjfgbghjaaGreatDoor
namespace Go.Proofs.YtkcabpjfgbghjaaGreatDoor
open Go.RowKit
namespace Ru
def bs (s : ByteArray) : List Int := s.data.toList.map fun b => (b.toNat : Int)
theorem bs_len (s : ByteArray) : (bs s).length = s.size := by unfold bs; rw [List.length_map, <- Lib.size_eq]
theorem bs_by (s : ByteArray) : By (bs s) := fun c hc => by
 unfold bs at hc
 obtain ⟨x, _, rfl⟩ := List.mem_map.1 hc
 have := x.toNat_lt
 omega
theorem bs_get (s : ByteArray) (k : Nat) (h : k < s.size) : g (bs s) k = (s[k].toNat : Int) := by
 rw [g_eq (by rw [bs_len]; exact h)]
 unfold bs
 rw [List.getElem_map]
 rfl
theorem bs_str {l : List Int} (h : By l) : bs (strOfNums l) = l := by
 unfold bs
 rw [strOfNums_data, List.map_map]
 apply List.ext_getElem
 ·simp
 ·intro i h1 h2
  simp only [List.getElem_map, Function.comp]
  have := h l[i] (List.getElem_mem h2)
  rw [UInt8.toNat_ofNat']
  omega
end Ru
theorem bytes_of (s : ByteArray) (w : World) : ∃ (C : Nat) (w0 : World), (convert 9 22 (.string s)).run Tryz.prog w = .ok (.slice (some ⟨w.heap.size, 0, none⟩) s.size C) w0 /\
 (∀ j, j < s.size -> w0.cell? ⟨w.heap.size, j, none⟩ = some (.int .u8 (Ru.g (Ru.bs s) j))) /\ (∀ j, j < s.size -> w0.frozen? ⟨w.heap.size, j, none⟩ = false) /\ Below w.heap.size w w0 /\ s.size <= C := by
 refine ⟨_, _, run_bytes_of_string w _ _ 5 s Tryz.underlying9 Tryz.underlying22 Tryz.underlying5, fun j hj => ?_, fun j hj => ?_, (Below.refl _ w).drew.alloc (Nat.le_refl _) _, grownCap_ge _ _ _ _⟩
 ·have h := World.cell?_alloc_mark w.drew (bytesRow s (grownCap w s.size 0 5)) 5 ((bytesRow s (grownCap w s.size 0 5)).size, (bytesRow s (grownCap w s.size 0 5)).size + 1) j
  refine h.trans ?_
  rw [Ru.bs_get s j hj]
  unfold bytesRow
  rw [Array.getElem?_append_left (by simpa using hj)]
  simp only [Array.getElem?_map]
  rw [Array.getElem?_eq_getElem hj]
  rfl
 ·have h := World.frozen?_alloc_mark w.drew (bytesRow s (grownCap w s.size 0 5)) 5 ((bytesRow s (grownCap w s.size 0 5)).size) ((bytesRow s (grownCap w s.size 0 5)).size + 1) j
  refine h.trans ?_
  have : j < (bytesRow s (grownCap w s.size 0 5)).size := by
   unfold bytesRow
   rw [Array.size_append, Array.size_map]
   have : s.data.size = s.size := rfl
   omega
  simp; omega
end Go.Proofs.YtkcabpjfgbghjaaGreatDoor
namespace Go.Proofs.YtkcabpjfgbghjaaGreatDoor
namespace Pr
open Ru Tk
open Go.Lib (encodeRuneZ)
def Txt (t : ByteArray) (cs : List Int) : Prop := bs t = wr cs /\ ∀ c ∈ cs, Is c
theorem wr_cons (c : Int) (l : List Int) : wr (c :: l) = encodeRuneZ c ++ wr l := rfl
theorem wr_nil : wr [] = [] := rfl
theorem wr_app (a b : List Int) : wr (a ++ b) = wr a ++ wr b := by unfold wr; rw [List.flatMap_append]
theorem bs_inj {s t : ByteArray} (h : bs s = bs t) : s = t := by
 have h1 : s.data.toList = t.data.toList := by
  unfold bs at h
  apply List.ext_getElem
  ·have := congrArg List.length h
   simpa using this
  ·intro i h1 h2
   have h3 : (s.data.toList.map fun b => (b.toNat : Int))[i]? = (t.data.toList.map fun b => (b.toNat : Int))[i]? := by rw [h]
   rw [List.getElem?_map, List.getElem?_map, List.getElem?_eq_getElem h1, List.getElem?_eq_getElem h2] at h3
   simp only [Option.map_some, Option.some.injEq] at h3
   exact UInt8.toNat_inj.1 (by omega)
 cases s; cases t
 simp only at h1
 congr 1
 exact Array.ext' h1
theorem str_bs (l : List Int) : bs (str l) = wr l := bs_str (wr_by l)
theorem Txt.str {t : ByteArray} {cs : List Int} (h : Txt t cs) : t = str cs := bs_inj (by rw [h.1, str_bs])
theorem txt_str {cs : List Int} (h : ∀ c ∈ cs, Is c) : Txt (str cs) cs := ⟨str_bs cs, h⟩
theorem enc_split {c d : Int} {r s : List Int} (hc : Is c) (hd : Is d) (h : encodeRuneZ c ++ r = encodeRuneZ d ++ s) : c = d /\ r = s := by
 have h1 := enc_ch hc r
 have h2 := enc_ch hd s
 rw [h] at h1
 have e1 : c = d := h1.1.symm.trans h2.1
 subst e1
 exact ⟨rfl, List.append_cancel_left h⟩
theorem enc_pos (c : Int) : 1 <= (encodeRuneZ c).length := (Lib.encodeRuneZ_length c).1
theorem wr_pre : ∀ (a cs rest : List Int), (∀ c ∈ a, Is c) -> (∀ c ∈ cs, Is c) -> wr a ++ rest = wr cs -> ∃ cs', cs = a ++ cs' /\ rest = wr cs'
 | [], cs, rest, _, _, h => ⟨cs, rfl, h⟩
 | c :: a, [], rest, _, _, h => by
   exfalso
   have h1 := congrArg List.length h
   rw [wr_cons, wr_nil, List.length_append, List.length_append, List.length_nil] at h1
   have := enc_pos c
   omega
 | c :: a, d :: cs, rest, ha, hc, h => by
   rw [wr_cons, wr_cons, List.append_assoc] at h
   obtain ⟨rfl, h2⟩ := enc_split (ha c (by simp)) (hc d (by simp)) h
   obtain ⟨cs', rfl, e⟩ := wr_pre a cs rest (fun x hx => ha x (by simp [hx])) (fun x hx => hc x (by simp [hx])) h2
   exact ⟨cs', rfl, e⟩
theorem wr_inj {a b : List Int} (ha : ∀ c ∈ a, Is c) (hb : ∀ c ∈ b, Is c) (h : wr a = wr b) : a = b := by
 obtain ⟨cs, rfl, e⟩ := wr_pre a b [] ha hb (by rw [List.append_nil]; exact h)
 cases cs with
 | nil => rw [List.append_nil]
 | cons c r =>
   exfalso
   have h1 := congrArg List.length e
   rw [wr_cons, List.length_append, List.length_nil] at h1
   have := enc_pos c
   omega
theorem Txt.one {t : ByteArray} {a b : List Int} (ha : Txt t a) (hb : Txt t b) : a = b := wr_inj ha.2 hb.2 (ha.1.symm.trans hb.1)
theorem decN_enc {c : Int} (h : Is c) (r : List Int) (n b0 b1 b2 b3 : Nat) (hn : (encodeRuneZ c).length <= n) (h0 : (b0 : Int) = g (encodeRuneZ c ++ r) 0) (h1 : (b1 : Int) = g (encodeRuneZ c ++ r) 1) (h2 : (b2 : Int) = g (encodeRuneZ c ++ r) 2) (h3 : (b3 : Int) = g (encodeRuneZ c ++ r) 3) :
 ((Lib.decodeN n b0 b1 b2 b3).1 : Int) = c /\ (Lib.decodeN n b0 b1 b2 b3).2 = (encodeRuneZ c).length := by
 unfold Is at h
 by_cases c1 : c <= 127
 ·rw [Lib.encodeRuneZ_one h.1 c1] at h0 ⊢
  simp only [List.cons_append, List.nil_append, g_zero] at h0
  unfold Lib.decodeN
  rw [if_pos (by omega)]
  exact ⟨h0, rfl⟩
 ·by_cases c2 : c <= 2047
  ·rw [Lib.encodeRuneZ_two (by omega) c2] at hn h0 h1 ⊢
   simp only [List.cons_append, List.nil_append, g_zero, g_succ, List.length_cons, List.length_nil] at hn h0 h1
   unfold Lib.decodeN
   rw [if_neg (by omega), if_pos (by omega), if_pos (by omega)]
   refine ⟨?_, rfl⟩
   simp only
   omega
  ·by_cases c3 : c <= 65535
   ·rw [Lib.encodeRuneZ_three (by omega)] at hn h0 h1 h2 ⊢
    simp only [List.cons_append, List.nil_append, g_zero, g_succ, List.length_cons, List.length_nil] at hn h0 h1 h2
    unfold Lib.decodeN
    rw [if_neg (by omega), if_neg (by omega), if_pos (by omega), if_pos (by omega)]
    refine ⟨?_, rfl⟩
    simp only
    omega
   ·rw [Lib.encodeRuneZ_four (by omega) (by omega)] at hn h0 h1 h2 h3 ⊢
    simp only [List.cons_append, List.nil_append, g_zero, g_succ, List.length_cons, List.length_nil] at hn h0 h1 h2 h3
    unfold Lib.decodeN
    rw [if_neg (by omega), if_neg (by omega), if_neg (by omega), if_pos (by omega), if_pos (by omega)]
    refine ⟨?_, rfl⟩
    simp only
    omega
theorem getD_num (l : List UInt8) (i : Nat) : ((l.getD i 0).toNat : Int) = g (l.map fun b => (b.toNat : Int)) i := by
 unfold g
 rw [List.getD_eq_getElem?_getD, List.getD_eq_getElem?_getD, List.getElem?_map]
 cases l[i]? <;> rfl
theorem dec_at {t : ByteArray} {pos : Nat} {c : Int} {r : List Int} (hc : Is c) (h : (bs t).drop pos = encodeRuneZ c ++ r) : ((Utf8.decode t pos).1 : Int) = c /\ (Utf8.decode t pos).2 = (encodeRuneZ c).length /\ pos < t.size := by
 have hl := congrArg List.length h
 rw [List.length_drop, List.length_append, bs_len] at hl
 have hp := enc_pos c
 have hs : t.data.toList.length = t.size := by simp
 rw [Lib.decode_N]
 have hg : ∀ i, ((t.data.toList.getD (pos + i) 0).toNat : Int) = g (encodeRuneZ c ++ r) i := fun i => by
  rw [<- h, getD_num, g_drop]; rfl
 obtain ⟨e1, e2⟩ := decN_enc hc r (t.data.toList.length - pos) _ _ _ _ (by omega) (hg 0) (hg 1) (hg 2) (hg 3)
 exact ⟨e1, e2, by omega⟩
theorem decL_enc {l : List UInt8} {c : Int} {r : List Int} (hc : Is c) (h : (l.map fun b => (b.toNat : Int)) = encodeRuneZ c ++ r) : ((Lib.decodeL l).1 : Int) = c /\ (Lib.decodeL l).2 = (encodeRuneZ c).length := by
 have hl := congrArg List.length h
 rw [List.length_map, List.length_append] at hl
 rw [Lib.decodeL_N]
 have hg : ∀ i, ((l.getD i 0).toNat : Int) = g (encodeRuneZ c ++ r) i := fun i => by rw [<- h, getD_num]
 exact decN_enc hc r l.length _ _ _ _ (by omega) (hg 0) (hg 1) (hg 2) (hg 3)
theorem valid_yes : ∀ (n : Nat) (l : List UInt8) (cs : List Int), (∀ c ∈ cs, Is c) -> (l.map fun b => (b.toNat : Int)) = wr cs -> Lib.validGoD n l = true
 | 0, _, _, _, _ => rfl
 | n + 1, l, [], _, h => by
   have hl : l = [] := by
    have := congrArg List.length h
    rw [wr_nil] at this
    simpa using this
   subst hl
   unfold Lib.validGoD
   rw [if_pos rfl]
 | n + 1, l, c :: cs, hc, h => by
   rw [wr_cons] at h
   obtain ⟨e1, e2⟩ := decL_enc (hc c (by simp)) h
   unfold Lib.validGoD
   by_cases h0 : l = []
   ·rw [if_pos h0]
   ·rw [if_neg h0]
    have hw := Lib.encodeRuneZ_length c
    rw [if_neg]
    ·refine valid_yes n _ cs (fun x hx => hc x (by simp [hx])) ?_
     rw [List.map_drop, h, e2, List.drop_left]
    ·rintro ⟨a1, a2⟩
     have hc65 : c = 65533 := by rw [<- e1, a1]; rfl
     rw [e2, hc65] at a2
     revert a2
     decide
theorem valid_no : ∀ (n : Nat) (l : List UInt8), l.length <= n -> Lib.validGoD n l = true -> ∃ cs, (∀ c ∈ cs, Is c) /\ (l.map fun b => (b.toNat : Int)) = wr cs
 | n, [], _, _ => ⟨[], by simp, rfl⟩
 | 0, a :: l, h, _ => by simp at h
 | n + 1, a :: l, hl, h => by
   unfold Lib.validGoD at h
   have hne : a :: l ≠ [] := by simp
   rw [if_neg hne] at h
   split at h
   ·cases h
   ·rename_i hv
    have he := Lib.encode_decode (a :: l) hne hv
    have hw := Lib.decodeL_width (a :: l)
    have hle := Lib.decodeL_le (a :: l) hne
    have hN := Lib.decodeL_N (a :: l)
    have hi := decode_is (a :: l).length ((a :: l).getD 0 0).toNat ((a :: l).getD 1 0).toNat ((a :: l).getD 2 0).toNat ((a :: l).getD 3 0).toNat (by simp) (UInt8.toNat_lt _) (UInt8.toNat_lt _) (UInt8.toNat_lt _) (UInt8.toNat_lt _) (by rw [<- hN]; exact hv)
    rw [<- hN] at hi
    have his : Is ((Lib.decodeL (a :: l)).1 : Int) := by rw [hi.1]; exact ch_is (by omega)
    obtain ⟨cs, h1, h2⟩ := valid_no n ((a :: l).drop (Lib.decodeL (a :: l)).2) (by rw [List.length_drop]; omega) h
    refine ⟨((Lib.decodeL (a :: l)).1 : Int) :: cs, ?_, ?_⟩
    ·intro c hc
     rcases List.mem_cons.1 hc with rfl | hc
     ·exact his
     ·exact h1 c hc
    ·rw [wr_cons, <- h2]
     have e3 : ((a :: l).take (Lib.decodeL (a :: l)).2).map (fun b => (b.toNat : Int)) = encodeRuneZ ((Lib.decodeL (a :: l)).1 : Int) := by
      rw [<- he]
      unfold Lib.encodeRune
      rw [List.map_map]
      have hb := Lib.encodeRuneZ_byte ((Lib.decodeL (a :: l)).1 : Int)
      have : ∀ x ∈ encodeRuneZ ((Lib.decodeL (a :: l)).1 : Int), ((fun b : UInt8 => (b.toNat : Int)) ∘ fun x : Int => x.toNat.toUInt8) x = x := fun x hx => by
       have := hb x hx
       simp only [Function.comp]
       rw [show x.toNat.toUInt8.toNat = x.toNat % 256 from UInt8.toNat_ofNat']
       omega
      rw [List.map_congr_left this]
      simp
     rw [<- e3, <- List.map_append, List.take_append_drop]
theorem valid_iff (t : ByteArray) : Lib.validD t.data.toList = true ↔ ∃ cs, Txt t cs := by
 constructor
 ·intro h
  obtain ⟨cs, h1, h2⟩ := valid_no _ _ (Nat.le_refl _) h
  exact ⟨cs, h2, h1⟩
 ·rintro ⟨cs, h1, h2⟩
  exact valid_yes _ _ cs h2 h1
theorem mem_wr {c : Int} (h0 : 0 <= c) (h1 : c < 128) : ∀ {cs : List Int}, (∀ d ∈ cs, Is d) -> (c ∈ wr cs ↔ c ∈ cs)
 | [], _ => by simp [wr_nil]
 | d :: cs, h => by
   have ih := mem_wr h0 h1 (cs := cs) (fun x hx => h x (by simp [hx]))
   rw [wr_cons, List.mem_append, ih, List.mem_cons]
   have : c ∈ encodeRuneZ d ↔ c = d := by
    have hd := h d (by simp)
    unfold Is at hd
    by_cases c1 : d <= 127
    ·rw [Lib.encodeRuneZ_one hd.1 c1]; simp
    ·by_cases c2 : d <= 2047
     ·rw [Lib.encodeRuneZ_two (by omega) c2]; simp only [List.mem_cons, List.not_mem_nil, or_false]; omega
     ·by_cases c3 : d <= 65535
      ·rw [Lib.encodeRuneZ_three (by omega)]; simp only [List.mem_cons, List.not_mem_nil, or_false]; omega
      ·rw [Lib.encodeRuneZ_four (by omega) (by omega)]; simp only [List.mem_cons, List.not_mem_nil, or_false]; omega
   rw [this]
theorem wr_asc' {l : List Int} (h : ∀ c ∈ l, 0 <= c /\ c <= 127) : wr l = l := wr_asc l h
theorem txt_size {t : ByteArray} {cs : List Int} (h : Txt t cs) : t.size = (wr cs).length := by rw [<- bs_len, h.1]
theorem wr_len_ge : ∀ (cs : List Int), cs.length <= (wr cs).length
 | [] => by simp
 | c :: cs => by
   have := wr_len_ge cs
   have := enc_pos c
   rw [wr_cons, List.length_append, List.length_cons]; omega
theorem txt_nil {t : ByteArray} {cs : List Int} (h : Txt t cs) : t.size = 0 ↔ cs = [] := by
 rw [txt_size h]
 constructor
 ·intro h0
  have := wr_len_ge cs
  exact List.eq_nil_of_length_eq_zero (by omega)
 ·rintro rfl; rfl
end Pr
end Go.Proofs.YtkcabpjfgbghjaaGreatDoor
namespace Go.Proofs.YtkcabpjfgbghjaaGreatDoor
open Go.RowKit
def Bu (w : World) (b : Nat) (l : List Int) : Prop := Lib.IsBuilderF 116 5 b b (nums .u8 l) w
def Bw (b : Nat) (w w' : World) : Prop := Below b w w' /\ Lib.OthersKept 5 (some b) w w'
theorem Bw.refl (b : Nat) (w : World) : Bw b w w := ⟨Below.refl _ _, Lib.OthersKept.refl _ _ _⟩
theorem Bw.trans {b : Nat} {w w1 w2 : World} (h : Bw b w w1) (k : Bw b w1 w2) : Bw b w w2 := ⟨h.1.trans k.1, h.2.trans k.2⟩
theorem Bw.drew {b : Nat} {w w1 : World} (h : Bw b w w1) : Bw b w w1.drew := ⟨h.1.drew, h.2.drew⟩
theorem Bw.alloc {b : Nat} {w w1 : World} (h : Bw b w w1) (hb : b <= w1.heap.size) (o : Obj) : Bw b w (w1.alloc o) := ⟨h.1.alloc hb o, h.2.alloc o⟩
theorem Bu.lt {w : World} {b : Nat} {l : List Int} (h : Bu w b l) : b < w.heap.size := by
 rcases h with h | h
 ·exact Lib.BuilderAtF.lt h
 ·exact Lib.BuilderAtF.lt h
theorem Bu.alloc {w : World} {b : Nat} {l : List Int} (h : Bu w b l) (o : Obj) : Bu (w.alloc o) b l := Lib.IsBuilderF.alloc h o
theorem Bu.drew {w : World} {b : Nat} {l : List Int} (h : Bu w b l) : Bu w.drew b l := h
theorem Bu.new (w : World) : Bu (w.alloc (.cells #[.pointer none, .slice none 0 0] 116)) w.heap.size [] := Lib.IsBuilderF.of (Lib.fresh_isBuilder 116 5 w)
def Used (w : World) (b : Nat) (l : List Int) : Prop := Lib.BuilderAtF 116 5 b b (.pointer (some ⟨b, 0, none⟩)) (nums .u8 l) w
theorem Used.parts {w : World} {b : Nat} {l : List Int} (h : Used w b l) : ∃ ao cap, w.heap[b]? = some (.cells #[.pointer (some ⟨b, 0, none⟩), .slice ao l.length cap] 116 (0, 0)) /\ w.ownsRowF b 5 1 (.slice ao l.length cap) l.length (nums .u8 l) /\ (Value.slice ao l.length cap).ownBlock ≠ some b /\ b < w.heap.size := by
 have hlt := Lib.BuilderAtF.lt h
 obtain ⟨_, v, hbk, hown, hne⟩ := h
 have e : (nums .u8 l).length = l.length := nums_len _ _
 rw [e] at hown
 obtain ⟨ao, cap, rfl⟩ : ∃ ao cap, v = .slice ao l.length cap := by
  rcases hown.2 with ⟨hv, h0⟩ | ⟨g, cap, cur, fz, hv, _⟩
  ·exact ⟨none, 0, by rw [hv, h0]⟩
  ·exact ⟨_, _, hv⟩
 exact ⟨ao, cap, hbk, hown, hne, hlt⟩
end Go.Proofs.YtkcabpjfgbghjaaGreatDoor
namespace Go.Proofs
open Go.Shelf Go.RowKit
def Tryz.lays196_ren : Go.Shelf.Ren := ⟨fun | 196 => 183 | 259 => 211 | n => n, fun | 0 => 0 | 3 => 3 | 4 => 4 | 5 => 5 | 9 => 9 | 12 => 12 | 46 => 189 | 53 => 215 | 119 => 207 | 138 => 209 | 139 => 210 | n => n, fun | 3 => 1 | 4 => 2 | n => n⟩
theorem Tryz.lays196 : Go.Proofs.Lays.n196 Tryz.prog Tryz.lays196_ren := {
 mixed := by kernel_rfl
 f196 := Tryz.func183.trans (congrArg some (by kernel_rfl))
 f259 := Tryz.func211.trans (congrArg some (by kernel_rfl))
 t0 := Tryz.underlying0
 a0 := Tryz.isAgg0
 z0 := Tryz.sizeOf0
 v0 := Tryz.zeroValue0
 t3 := Tryz.underlying3
 a3 := Tryz.isAgg3
 z3 := Tryz.sizeOf3
 v3 := Tryz.zeroValue3
 t4 := Tryz.underlying4
 a4 := Tryz.isAgg4
 z4 := Tryz.sizeOf4
 v4 := Tryz.zeroValue4
 t5 := Tryz.underlying5
 a5 := Tryz.isAgg5
 z5 := Tryz.sizeOf5
 v5 := Tryz.zeroValue5
 t9 := Tryz.underlying9
 a9 := Tryz.isAgg9
 z9 := Tryz.sizeOf9
 v9 := Tryz.zeroValue9
 t12 := Tryz.underlying12
 a12 := Tryz.isAgg12
 z12 := Tryz.sizeOf12
 v12 := Tryz.zeroValue12
 t46 := Tryz.underlying189
 a46 := Tryz.isAgg189
 z46 := Tryz.sizeOf189
 v46 := Tryz.zeroValue189
 t53 := Tryz.underlying215
 a53 := Tryz.isAgg215
 z53 := Tryz.sizeOf215
 v53 := Tryz.zeroValue215
 t119 := Tryz.underlying207
 a119 := Tryz.isAgg207
 z119 := Tryz.sizeOf207
 t138 := Tryz.underlying209
 a138 := Tryz.isAgg209
 z138 := Tryz.sizeOf209
 v138 := Tryz.zeroValue209
 t139 := Tryz.underlying210
 a139 := Tryz.isAgg210
 z139 := Tryz.sizeOf210
 v139 := Tryz.zeroValue210
 g3 := by kernel_rfl
 g4 := by kernel_rfl }
theorem Tryz.utf8_ValidString (s : ByteArray) (w : World) (hs : s.size <= 9223372036854775807) (hT : Lib.Utf8Tabs 1 2 w) :
 Calls Tryz.prog 183 #[.string s] w fun e w' => e = .returned (.bool (Lib.validD s.data.toList)) /\ Below w.heap.size w w' := Any.utf8_ValidString Tryz.lays196 s w hs hT
end Go.Proofs
namespace Go.Proofs.YtkcabpjfgbghjaaGreatDoor
open Go.RowKit
namespace Ru
theorem isB_lib (c : Int) : Lib.validRune c = isB c := by
 unfold Lib.validRune isB
 rw [Bool.eq_iff_iff]; simp; omega
end Ru
theorem is_any (c : Int) (w : World) :
 Calls Tryz.prog 195 #[.int .i32 c] w fun e w' => e = .returned (.bool (Ru.isB c)) /\ w = w' := by
 rw [<- Ru.isB_lib]
 go_enter Tryz.func195, Tryz.ntmps195
 go_wp2_with (go_at_call 215; refine (Tryz.utf8_ValidRune _ _).mono ?_; rintro e w' ⟨rfl, rfl⟩)
 go_ret
 exact ⟨rfl, rfl⟩
theorem letter_any (c : Int) (w : World) :
 Calls Tryz.prog 196 #[.int .i32 c] w fun e w' => e = .returned (.bool (Ru.letB c)) /\ w = w' := by
 by_cases a1 : 97 <= c <;> by_cases a2 : c <= 122 <;> by_cases a3 : 65 <= c <;> by_cases a4 : c <= 90
 all_goals try omega
 all_goals
  go_enter Tryz.func196, Tryz.ntmps196
  go_wp2_with fail
  go_ret
  exact ⟨ret_bool (by unfold Ru.letB; simp; try omega), rfl⟩
theorem isdigit_any (c : Int) (w : World) :
 Calls Tryz.prog 158 #[.int .i32 c] w fun e w' => e = .returned (.bool (Ru.digB c)) /\ w = w' := by
 by_cases a1 : 48 <= c <;> by_cases a2 : c <= 57
 all_goals try omega
 all_goals
  go_enter Tryz.func158, Tryz.ntmps158
  go_wp2_with fail
  go_ret
  exact ⟨ret_bool (by unfold Ru.digB; simp; try omega), rfl⟩
theorem white_any (c : Int) (w : World) :
 Calls Tryz.prog 86 #[.int .i32 c] w fun e w' => e = .returned (.bool (Ru.whiB c)) /\ w = w' := by
 by_cases a1 : c = 9
 ·subst a1
  go_enter Tryz.func86, Tryz.ntmps86
  go_wp2_with fail
  go_ret
  exact ⟨rfl, rfl⟩
 ·by_cases a2 : c = 10
  ·subst a2
   go_enter Tryz.func86, Tryz.ntmps86
   go_wp2_with fail
   go_ret
   exact ⟨rfl, rfl⟩
  ·by_cases a3 : c = 32
   ·subst a3
    go_enter Tryz.func86, Tryz.ntmps86
    go_wp2_with fail
    go_ret
    exact ⟨rfl, rfl⟩
   ·have e1 := Ru.eq_f a1
    have e2 := Ru.eq_f a2
    have e3 := Ru.eq_f a3
    go_enter Tryz.func86, Tryz.ntmps86
    go_wp2_with fail
    go_ret
    exact ⟨ret_bool (by unfold Ru.whiB; simp [a1, a2, a3]), rfl⟩
theorem begins_any (c : Int) (w : World) :
 Calls Tryz.prog 157 #[.int .i32 c] w fun e w' => e = .returned (.bool (Ru.begB c)) /\ w = w' := by
 by_cases a : (97 <= c /\ c <= 122) ∨ (65 <= c /\ c <= 90)
 ·have hd : Ru.letB c = true := decide_eq_true a
  have H := Lib.hid a
  clear a
  go_enter Tryz.func157, Tryz.ntmps157
  go_wp2_with (first | (go_at_call 196; refine (letter_any _ _).mono ?_; rintro e w' ⟨rfl, rfl⟩) | (go_at_call 195; refine (is_any _ _).mono ?_; rintro e w' ⟨rfl, rfl⟩))
  go_ret
  exact ⟨ret_bool (decide_eq_true (Or.inl H.out)).symm, rfl⟩
 ·have hd : Ru.letB c = false := decide_eq_false a
  have H := Lib.hid a
  clear a
  by_cases a1 : c = 95
  ·subst a1
   go_enter Tryz.func157, Tryz.ntmps157
   go_wp2_with (first | (go_at_call 196; refine (letter_any _ _).mono ?_; rintro e w' ⟨rfl, rfl⟩) | (go_at_call 195; refine (is_any _ _).mono ?_; rintro e w' ⟨rfl, rfl⟩))
   go_ret
   exact ⟨rfl, rfl⟩
  ·have e1 := Ru.eq_f a1
   by_cases a2 : 128 <= c
   ·go_enter Tryz.func157, Tryz.ntmps157
    go_wp2_with (first | (go_at_call 196; refine (letter_any _ _).mono ?_; rintro e w' ⟨rfl, rfl⟩) | (go_at_call 195; refine (is_any _ _).mono ?_; rintro e w' ⟨rfl, rfl⟩))
    go_ret
    exact ⟨ret_bool (by unfold Ru.begB Ru.isB; rw [Bool.eq_iff_iff]; simp; have := H.out; omega), rfl⟩
   ·go_enter Tryz.func157, Tryz.ntmps157
    go_wp2_with (first | (go_at_call 196; refine (letter_any _ _).mono ?_; rintro e w' ⟨rfl, rfl⟩) | (go_at_call 195; refine (is_any _ _).mono ?_; rintro e w' ⟨rfl, rfl⟩))
    go_ret
    exact ⟨ret_bool (by unfold Ru.begB; rw [Bool.eq_iff_iff]; simp; have := H.out; omega), rfl⟩
theorem within_any (c : Int) (w : World) :
 Calls Tryz.prog 90 #[.int .i32 c] w fun e w' => e = .returned (.bool (Ru.witB c)) /\ w = w' := by
 unfold Ru.witB
 cases hb : Ru.begB c
 ·by_cases a : 48 <= c /\ c <= 57
  ·have hd : Ru.digB c = true := decide_eq_true a
   have H := Lib.hid a
   clear a
   go_enter Tryz.func90, Tryz.ntmps90
   go_wp2_with (first | (go_at_call 157; refine (begins_any _ _).mono ?_; rintro e w' ⟨rfl, rfl⟩) | (go_at_call 158; refine (isdigit_any _ _).mono ?_; rintro e w' ⟨rfl, rfl⟩))
   go_ret
   exact ⟨ret_bool (decide_eq_true (Or.inl H.out)).symm, rfl⟩
  ·have hd : Ru.digB c = false := decide_eq_false a
   have H := Lib.hid a
   clear a
   by_cases a1 : c = 45
   ·subst a1
    go_enter Tryz.func90, Tryz.ntmps90
    go_wp2_with (first | (go_at_call 157; refine (begins_any _ _).mono ?_; rintro e w' ⟨rfl, rfl⟩) | (go_at_call 158; refine (isdigit_any _ _).mono ?_; rintro e w' ⟨rfl, rfl⟩))
    go_ret
    exact ⟨rfl, rfl⟩
   ·have e1 := Ru.eq_f a1
    go_enter Tryz.func90, Tryz.ntmps90
    go_wp2_with (first | (go_at_call 157; refine (begins_any _ _).mono ?_; rintro e w' ⟨rfl, rfl⟩) | (go_at_call 158; refine (isdigit_any _ _).mono ?_; rintro e w' ⟨rfl, rfl⟩))
    go_ret
    exact ⟨ret_bool (by simp [a1]; have := H.out; omega), rfl⟩
 ·go_enter Tryz.func90, Tryz.ntmps90
  go_wp2_with (first | (go_at_call 157; refine (begins_any _ _).mono ?_; rintro e w' ⟨rfl, rfl⟩) | (go_at_call 158; refine (isdigit_any _ _).mono ?_; rintro e w' ⟨rfl, rfl⟩))
  go_ret
  exact ⟨rfl, rfl⟩
def UTab (B : Nat) (w : World) : Prop := Lib.Utf8Tabs 1 2 w /\ 1 < B /\ 2 < B
theorem UTab.below {B : Nat} {w w' : World} (h : UTab B w) (hb : Below B w w') : UTab B w' :=
 ⟨⟨fun c hc => (hb.cell (p := ⟨_, _, none⟩) h.2.1).trans (h.1.1 c hc), fun i hi => ⟨(hb.cell (p := ⟨_, _, none⟩) h.2.2).trans (h.1.2 i hi).1, (hb.cell (p := ⟨_, _, none⟩) h.2.2).trans (h.1.2 i hi).2⟩⟩, h.2⟩
theorem UTab.of {w : World} (h : Lib.Utf8Tabs 1 2 w) : UTab w.heap.size w :=
 ⟨h, World.block_lt_of_cell? w _ (h.1 0 (by decide)), World.block_lt_of_cell? w _ (h.2 0 (by decide)).1⟩
theorem UTab.next {w w1 : World} (h : UTab w.heap.size w) (hb : Below w.heap.size w w1) : UTab w1.heap.size w1 := ⟨(h.below hb).1, by have := hb.size; have := h.2; omega⟩
namespace Ru
theorem rd_len' (l : List Int) : (rd l).length <= l.length := rd_len _ _
theorem rd_ok {l : List Int} (h : By l) : ∀ c ∈ rd l, Is c /\ c ≠ 0 /\ c ≠ 12 /\ c ≠ 13 := rd_is _ _ h
end Ru
theorem stop_any (n : Int) (w : World) :
 Calls Tryz.prog 180 #[.int .i64 n] w fun e w' => e = .returned (.int .i64 (Fx.stop n)) /\ w = w' := by
 go_enter Tryz.func180, Tryz.ntmps180
 go_wp2
 all_goals (go_ret; exact ⟨ret_int (by unfold Fx.stop; omega), rfl⟩)
def Tab (B : Nat) (w : World) : Prop := Lib.TabBelow Tryz.prog B w "internal/strconv.uint64pow10" .u64 Lib.pow10Tab
theorem sub_byte {c : UInt8} (h : 48 <= (c.toNat : Int)) : ((c.toNat : Int) - 48) = ((Fx.dv c : Nat) : Int) := by unfold Fx.dv; omega
namespace Fx
theorem V_succ (f : Nat -> Nat) (n : Nat) : V f (n + 1) = V f n * 10 + f n := rfl
theorem V_le (f : Nat -> Nat) {a b : Nat} (h : a <= b) : V f a <= V f b := by
 have := V_mono f a (b - a); rw [show a + (b - a) = b by omega] at this; exact this
theorem V_still (f : Nat -> Nat) {a b : Nat} (h0 : V f a = 0) (hf : ∀ i, a <= i -> f i = 0) (h : a <= b) : V f b = 0 := by
 have := V_zero f a h0 hf (b - a); rw [show a + (b - a) = b by omega] at this; exact this
end Fx
namespace Fx
end Fx
namespace Fx
end Fx
end Go.Proofs.YtkcabpjfgbghjaaGreatDoor
namespace Go.Proofs.YtkcabpjfgbghjaaGreatDoor
namespace Fx
theorem at_app (P R : List UInt8) (i : Nat) : at' (P ++ R) (P.length + i) = at' R i := by
 unfold at'
 rw [List.getD_eq_getElem?_getD, List.getD_eq_getElem?_getD, List.getElem?_append_right (by omega), show P.length + i - P.length = i by omega]
theorem at_app0 (P R : List UInt8) : at' (P ++ R) P.length = at' R 0 := at_app P R 0
theorem at_cons (c : UInt8) (R : List UInt8) : at' (c :: R) 0 = c := rfl
theorem dig_app (P A R : List UInt8) (hA : ∀ c ∈ A, isD c = true) (hR : isD (at' R 0) = false) : dig (P ++ (A ++ R)) P.length = P.length + A.length := by
 unfold dig
 rw [List.drop_left, List.takeWhile_append_of_pos hA]
 have : R.takeWhile isD = [] := by
  cases R with
  | nil => rfl
  | cons c R => rw [List.takeWhile_cons, show isD c = false from hR]; rfl
 rw [this, List.append_nil]
theorem seg_app (P A R : List UInt8) : seg (P ++ (A ++ R)) P.length (P.length + A.length) = A := by
 unfold seg
 rw [List.drop_left, show P.length + A.length - P.length = A.length by omega, List.take_left]
theorem at_of {l P R : List UInt8} {k : Nat} (hl : l = P ++ R) (hk : k = P.length) : at' l k = at' R 0 := by subst hl hk; exact at_app0 P R
theorem dig_of {l P A R : List UInt8} {k : Nat} (hl : l = P ++ (A ++ R)) (hk : k = P.length) (hA : ∀ c ∈ A, isD c = true) (hR : isD (at' R 0) = false) : dig l k = k + A.length := by
 subst hl hk; exact dig_app P A R hA hR
theorem seg_of {l P A R : List UInt8} {a b : Nat} (hl : l = P ++ (A ++ R)) (ha : a = P.length) (hb : b = P.length + A.length) : seg l a b = A := by
 subst hl ha hb; exact seg_app P A R
structure Parts (S W F E fr sg ds : List UInt8) : Prop where
 hS : S = [] ∨ S = [45]
 hW : ∀ c ∈ W, isD c = true
 hW0 : W ≠ []
 hF : (F = [] /\ fr = []) ∨ (F = 46 :: fr /\ fr ≠ [])
 hfr : ∀ c ∈ fr, isD c = true
 hE : E = [] ∨ (E = 101 :: (sg ++ ds) /\ ds ≠ [])
 hds : ∀ c ∈ ds, isD c = true
 hsg : sg = [] ∨ sg = [43] ∨ sg = [45]
variable {S W F E fr sg ds : List UInt8}
theorem isD_head {A R : List UInt8} (h0 : A ≠ []) (h : ∀ c ∈ A, isD c = true) : isD (at' (A ++ R) 0) = true := by
 cases A with
 | nil => exact absurd rfl h0
 | cons c A => exact h c (by simp)
theorem isD_ne {c : UInt8} (h : isD c = true) : c ≠ 43 /\ c ≠ 45 /\ c ≠ 46 := by
 refine ⟨?_, ?_, ?_⟩ <;> (rintro rfl; exact absurd h (by decide))
theorem Parts.spS (h : Parts S W F E fr sg ds) : spS (S ++ (W ++ (F ++ E))) = S.length := by
 rcases h.hS with rfl | rfl
 ·have hd := isD_head (R := F ++ E) h.hW0 h.hW
  have hn := isD_ne hd
  unfold Fx.spS sgn
  rw [List.nil_append, if_neg (by rintro (h | h); exact hn.1 h; exact hn.2.1 h)]; rfl
 ·rfl
theorem Parts.headFE (h : Parts S W F E fr sg ds) : isD (at' (F ++ E) 0) = false := by
 rcases h.hF with ⟨rfl, _⟩ | ⟨rfl, _⟩
 ·rcases h.hE with rfl | ⟨rfl, _⟩ <;> rfl
 ·rfl
theorem Parts.headE (h : Parts S W F E fr sg ds) : isD (at' E 0) = false /\ at' E 0 ≠ 46 := by
 rcases h.hE with rfl | ⟨rfl, _⟩
 ·exact ⟨rfl, by decide⟩
 ·exact ⟨rfl, by rw [at_cons]; decide⟩
theorem Parts.spW (h : Parts S W F E fr sg ds) : spW (S ++ (W ++ (F ++ E))) = S.length + W.length := by
 unfold Fx.spW
 rw [h.spS]
 exact dig_app S W (F ++ E) h.hW h.headFE
theorem Parts.spD (h : Parts S W F E fr sg ds) : spD (S ++ (W ++ (F ++ E))) = S.length + W.length + F.length := by
 unfold Fx.spD
 rw [h.spW]
 have e0 : at' (S ++ (W ++ (F ++ E))) (S.length + W.length) = at' (F ++ E) 0 := by
  rw [<- List.append_assoc, <- List.length_append]; exact at_app0 _ _
 unfold spDof
 rw [e0]
 rcases h.hF with ⟨rfl, _⟩ | ⟨rfl, hf⟩
 ·rw [if_neg (fun c => h.headE.2 c.1)]; rfl
 ·have e1 : dig (S ++ (W ++ (46 :: fr ++ E))) (S.length + W.length + 1) = S.length + W.length + 1 + fr.length := by
   exact dig_of (P := S ++ W ++ [46]) (R := E) (by simp) (by simp only [List.length_append, List.length_cons, List.length_nil]; try omega) h.hfr h.headE.1
  have hp : 0 < fr.length := List.length_pos_iff.2 hf
  rw [e1, if_pos ⟨rfl, by omega⟩, List.length_cons]; omega
theorem Parts.fromE' (h : Parts S W F E fr sg ds) (hE : E = 101 :: (sg ++ ds)) (hd : ds ≠ []) : sgn (S ++ (W ++ (F ++ E))) (S.length + W.length + F.length + 1) = S.length + W.length + F.length + 1 + sg.length := by
 subst hE
 have e1 : at' (S ++ (W ++ (F ++ 101 :: (sg ++ ds)))) (S.length + W.length + F.length + 1) = at' (sg ++ ds) 0 := at_of (P := S ++ W ++ F ++ [101]) (by simp) (by simp only [List.length_append, List.length_cons, List.length_nil]; try omega)
 unfold sgn
 rw [e1]
 rcases h.hsg with rfl | rfl | rfl
 ·have hn := isD_ne (isD_head (R := []) hd h.hds)
  rw [List.append_nil] at hn
  rw [List.nil_append, if_neg (by rintro (h | h); exact hn.1 h; exact hn.2.1 h)]; rfl
 ·rfl
 ·rfl
theorem Parts.digE (h : Parts S W F E fr sg ds) (hE : E = 101 :: (sg ++ ds)) : dig (S ++ (W ++ (F ++ E))) (S.length + W.length + F.length + 1 + sg.length) = S.length + W.length + F.length + 1 + sg.length + ds.length := by
 subst hE
 exact dig_of (P := S ++ W ++ F ++ [101] ++ sg) (R := []) (by simp) (by simp only [List.length_append, List.length_cons, List.length_nil]; try omega) h.hds (by decide)
theorem Parts.spE (h : Parts S W F E fr sg ds) : spE (S ++ (W ++ (F ++ E))) = (S ++ (W ++ (F ++ E))).length := by
 unfold Fx.spE
 rw [h.spD]
 have e0 : at' (S ++ (W ++ (F ++ E))) (S.length + W.length + F.length) = at' E 0 := at_of (P := S ++ W ++ F) (by simp) (by simp only [List.length_append])
 unfold spEof
 rw [e0]
 rcases h.hE with rfl | ⟨hE, hd⟩
 ·rw [if_neg (by intro c; exact absurd c.1 (by decide))]
  simp; omega
 ·have hp : 0 < ds.length := List.length_pos_iff.2 hd
  rw [h.fromE' hE hd, h.digE hE, if_pos ⟨Or.inl (by rw [hE]; rfl), by omega⟩, hE]
  simp; omega
theorem Parts.isDec (h : Parts S W F E fr sg ds) : isDec (S ++ (W ++ (F ++ E))) = true := by
 unfold Fx.isDec
 apply decide_eq_true
 have hp : 0 < W.length := List.length_pos_iff.2 h.hW0
 unfold len
 rw [h.spD, h.spS, if_neg (by omega), h.spE]
 refine ⟨?_, rfl⟩
 simp only [List.length_append]; omega
theorem Parts.digs (h : Parts S W F E fr sg ds) : digs (S ++ (W ++ (F ++ E))) = W.map dv ++ fr.map dv := by
 unfold Fx.digs
 rw [h.spS, h.spW, h.spD, seg_app]
 congr 2
 rcases h.hF with ⟨rfl, rfl⟩ | ⟨rfl, _⟩
 ·unfold seg
  rw [List.length_nil, show S.length + W.length + 0 - (S.length + W.length + 1) = 0 by omega]; rfl
 ·exact seg_of (P := S ++ W ++ [46]) (R := E) (by simp) (by simp only [List.length_append, List.length_cons, List.length_nil]; try omega) (by simp only [List.length_append, List.length_cons, List.length_nil]; try omega)
theorem Parts.place0 (h : Parts S W F E fr sg ds) : place0 (S ++ (W ++ (F ++ E))) = W.length := by
 unfold Fx.place0; rw [h.spS, h.spW]; omega
def val (D : List Nat) : Nat := D.foldl (fun a d => a * 10 + d) 0
end Fx
end Go.Proofs.YtkcabpjfgbghjaaGreatDoor
namespace Go.Proofs.YtkcabpjfgbghjaaGreatDoor
namespace Fx
end Fx
namespace Pr
open Ru Tk
def pb (L : List Int) (k : Nat) : List UInt8 := (L.map p8).drop k
end Pr
end Go.Proofs.YtkcabpjfgbghjaaGreatDoor
namespace Go.Proofs.YtkcabpjfgbghjaaGreatDoor
namespace Pr
open Ru Tk
abbrev PT := Int × List Int × Int
def toTok (t : PT) : Tok := (t.1, str t.2.1, t.2.2)
def Del (c : Int) : Prop := begB c = false /\ ¬ (48 <= c /\ c <= 57) /\ c ≠ 9 /\ c ≠ 10 /\ c ≠ 12 /\ c ≠ 13 /\ c ≠ 32 /\ c ≠ 34 /\ c ≠ 39 /\ c ≠ 40 /\ c ≠ 41 /\ c ≠ 91 /\ c ≠ 93 /\ c ≠ 123 /\ c ≠ 125 /\ c ≠ 58 /\ c ≠ 59 /\ c ≠ 44
def Kd (k : Int) (l : List Int) (n : Int) : Prop :=
 (k = 1 /\ l = [] /\ n = 0) ∨ ((k = 2 ∨ k = 3 ∨ k = 4 ∨ k = 5) /\ l ≠ [] /\ n = 0) ∨ ((k = 6 ∨ k = 7) /\ n = 0) ∨
 ((k = 8 ∨ k = 9) /\ l = [] /\ n = Fx.stop n) ∨ (k = 10 /\ l ≠ [] /\ n = Fx.stop n) ∨ (k = 11 /\ (∃ c, l = [c] /\ Del c) /\ n = 0) ∨
 (k = 12 /\ (l = [40] ∨ l = [91] ∨ l = [123]) /\ n = 0) ∨ (k = 13 /\ (l = [41] ∨ l = [93] ∨ l = [125]) /\ n = 0) ∨ ((k = 14 ∨ k = 15 ∨ k = 16) /\ l = [] /\ n = 0)
def One (t : PT) : Prop := Ok t.2.1 /\ Kd t.1 t.2.1 t.2.2
def Stp (x : Int) : Prop := x = -1 ∨ x = 47 ∨ x = 10 ∨ x = 41 ∨ x = 93 ∨ x = 125 ∨ x = 34 ∨ x = 58 ∨ x = 59 ∨ x = 44
section
variable {pre post l : List Int}
end
end Pr
end Go.Proofs.YtkcabpjfgbghjaaGreatDoor
namespace Go.Proofs.YtkcabpjfgbghjaaGreatDoor
namespace Pr
open Ru Tk
def F1 (a : Int) : Prop := a = 1 ∨ a = 3 ∨ a = 12 ∨ a = 13 ∨ a = 6 ∨ a = 14 ∨ a = 15 ∨ a = 16
def F2 (b : Int) : Prop := b = 1 ∨ b = 13 ∨ b = 6 ∨ b = 14 ∨ b = 15 ∨ b = 16
instance (a : Int) : Decidable (F1 a) := by unfold F1; exact inferInstance
instance (a : Int) : Decidable (F2 a) := by unfold F2; exact inferInstance
def nextK (r : List PT) : Option Int := r.head?.map fun t => t.1
def Stn (t : PT) (nx : Option Int) : Prop := (t.1 = 1 -> nx ≠ some 1) /\ (t.1 = 7 -> nx = some 1) /\ (t.1 = 11 -> t.2.1 = [92] -> nx = some 1 ∨ nx = none)
def Right : List PT -> Prop
 | [] => True
 | t :: r => One t /\ Stn t (nextK r) /\ Right r
def Rd (l : List Int) : Prop := ∀ c ∈ l, Is c /\ c ≠ 0 /\ c ≠ 12 /\ c ≠ 13
theorem Rd.app {a b : List Int} (ha : Rd a) (hb : Rd b) : Rd (a ++ b) := fun c hc => by
 rcases List.mem_append.1 hc with hc | hc
 ·exact ha c hc
 ·exact hb c hc
theorem Rd.nil : Rd [] := fun c hc => by cases hc
theorem rd_small {c : Int} (h0 : 0 < c) (h1 : c < 128) (h2 : c ≠ 12) (h3 : c ≠ 13) : Is c /\ c ≠ 0 /\ c ≠ 12 /\ c ≠ 13 := by unfold Is; omega
theorem Rd.one {c : Int} (h0 : 0 < c) (h1 : c < 128) (h2 : c ≠ 12) (h3 : c ≠ 13) : Rd [c] := fun d hd => by
 rw [List.mem_singleton] at hd; subst hd; exact rd_small h0 h1 h2 h3
theorem Right.all : ∀ {ts : List PT}, Right ts -> ∀ t ∈ ts, One t
 | [], _ => fun t ht => by cases ht
 | t :: r, h => fun u hu => by
   rcases List.mem_cons.1 hu with rfl | hu
   ·exact h.1
   ·exact Right.all h.2.2 u hu
end Pr
end Go.Proofs.YtkcabpjfgbghjaaGreatDoor
namespace Go.Proofs.YtkcabpjfgbghjaaGreatDoor
open Go.RowKit
structure PTab (B : Nat) (w : World) : Prop where
 u : UTab B w
 t : Tab B w
 z : TabAt 8 Lib.deBruijn64tab w
 zl : 8 < B
theorem PTab.below {B : Nat} {w w1 : World} (h : PTab B w) (hb : Below B w w1) : PTab B w1 :=
 ⟨h.u.below hb, Lib.TabBelow.on h.t hb, fun j hj => (hb.cell (p := ⟨_, _, none⟩) h.zl).trans (h.z j hj), h.zl⟩
theorem PTab.more {B C : Nat} {w : World} (h : PTab B w) (hB : B <= C) : PTab C w :=
 ⟨⟨h.u.1, by have := h.u.2; omega⟩, fun w' hw => h.t w' (hw.mono hB), h.z, by have := h.zl; omega⟩
theorem PTab.next {w w1 : World} (h : PTab w.heap.size w) (hb : Below w.heap.size w w1) : PTab w1.heap.size w1 := (h.below hb).more hb.size
theorem Bu.below {w w1 : World} {b : Nat} {l : List Int} (h : Bu w b l) (hb : Below w.heap.size w w1) : Bu w1 b l := by
 have hlt := h.lt
 have key : ∀ p, Lib.BuilderAtF 116 5 b b p (nums .u8 l) w -> Lib.BuilderAtF 116 5 b b p (nums .u8 l) w1 := by
  rintro p ⟨h0, v, hbk, hown, hne⟩
  refine ⟨h0, v, (hb.block b hlt).trans hbk, hown.kept (row := none) ⟨hb.os, hb.tape, hb.output, hb.size, fun k hk _ => hb.block k hk⟩ ?_, hne⟩
  cases v.ownBlock with
  | none => exact .inl rfl
  | some x => exact .inr (by simp)
 rcases h with h | h
 ·exact .inl (key _ h)
 ·exact .inr (key _ h)
theorem Bw.of_below {w w1 : World} {b : Nat} (hb : Below w.heap.size w w1) (hs : b <= w.heap.size) : Bw b w w1 := by
 refine ⟨hb.mono hs, fun k o hk _ _ => ?_⟩
 have hlt : k < w.heap.size := by
  by_cases c : k < w.heap.size
  ·exact c
  ·rw [Array.getElem?_eq_none (by omega)] at hk; cases hk
 exact (hb.block k hlt).trans hk
namespace Pr
open Ru Tk
def pos (cs : List Int) (k : Nat) : Nat := (wr (cs.take k)).length
end Pr
namespace Pr
open Ru Tk
end Pr
namespace Pr
open Ru Tk
end Pr
namespace Pr
open Ru Tk
def Snd (t : ByteArray) : Prop := ∃ cs, Txt t cs /\ Ok cs
theorem idx_neg (c : UInt8) : ∀ l : List UInt8, Lib.indexByte l c < 0 ↔ c ∉ l
 | [] => by simp [Lib.indexByte]
 | b :: l => by
   have ih := idx_neg c l
   have hg := Lib.indexByte_ge l c
   unfold Lib.indexByte
   rw [List.mem_cons]
   by_cases h : b = c
   ·rw [if_pos (by rw [h]; simp)]
    constructor
    ·intro h0; omega
    ·intro h0; exact absurd (.inl h.symm) h0
   ·rw [if_neg (by simpa using h)]
    have hc : ¬ c = b := fun e => h e.symm
    by_cases h1 : Lib.indexByte l c == -1
    ·rw [if_pos h1]
     have h1 : Lib.indexByte l c = -1 := by simpa using h1
     have := ih.1 (by omega)
     constructor
     ·intro _ hh
      rcases hh with hh | hh
      ·exact hc hh
      ·exact this hh
     ·intro _; omega
    ·rw [if_neg h1]
     have h1 : Lib.indexByte l c ≠ -1 := by simpa using h1
     constructor
     ·intro h2; omega
     ·intro h2
      have := ih.2 (fun hh => h2 (.inr hh))
      omega
theorem zero_mem {t : ByteArray} {cs : List Int} (h : Txt t cs) : (0 : UInt8) ∈ t.data.toList ↔ (0 : Int) ∈ cs := by
 rw [<- mem_wr (by omega) (by omega) h.2, <- h.1]
 unfold bs
 rw [List.mem_map]
 constructor
 ·intro hm; exact ⟨0, hm, rfl⟩
 ·rintro ⟨b, hb, e⟩
  have : b = 0 := UInt8.toNat_inj.1 (by simpa using e)
  rw [<- this]; exact hb
theorem ok_iff {cs : List Int} (h : ∀ c ∈ cs, Is c) : Ok cs ↔ (0 : Int) ∉ cs := by
 constructor
 ·intro ho h0; exact (ho 0 h0).2 rfl
 ·intro h0 c hc; exact ⟨h c hc, fun e => h0 (by rw [<- e]; exact hc)⟩
theorem snd_yes {t : ByteArray} (hv : Lib.validD t.data.toList = true) (h0 : Lib.indexByte t.data.toList 0 < 0) : Snd t := by
 obtain ⟨cs, h⟩ := (valid_iff t).1 hv
 exact ⟨cs, h, (ok_iff h.2).2 fun hm => (idx_neg 0 _).1 h0 ((zero_mem h).2 hm)⟩
theorem snd_valid {t : ByteArray} (h : Snd t) : Lib.validD t.data.toList = true /\ Lib.indexByte t.data.toList 0 < 0 := by
 obtain ⟨cs, h, ho⟩ := h
 exact ⟨(valid_iff t).2 ⟨cs, h⟩, (idx_neg 0 _).2 fun hm => (ok_iff h.2).1 ho ((zero_mem h).1 hm)⟩
end Pr
theorem empty_any (t : ByteArray) (b : Bool) (hb : b = true ↔ t = ⟨#[]⟩) (w : World) : Calls Tryz.prog 128 #[.string t] w (Bo b w) := by
 by_cases h : t.size = 0
 ·obtain rfl : b = true := hb.2 (Pr.bs_inj (by
   have := Ru.bs_len t
   rw [h] at this
   rw [List.eq_nil_of_length_eq_zero this]; rfl))
  have e : t.toList.isEmpty = true := by
   rw [Lib.toList_data]
   have : t.data.toList.length = 0 := by simpa using h
   rw [List.eq_nil_of_length_eq_zero this]; rfl
  clear hb
  go_enter Tryz.func128, Tryz.ntmps128
  go_wp2_with fail
  go_ret
  exact ⟨rfl, Below.refl _ _⟩
 ·obtain rfl : b = false := by
   rw [Bool.eq_false_iff]
   intro hh
   exact h (by rw [hb.1 hh]; rfl)
  have e : t.toList.isEmpty = false := by
   rw [Lib.toList_data]
   have : t.data.toList.length = t.size := by simp
   cases hh : t.data.toList with
   | nil => rw [hh] at this; simp at this; omega
   | cons a r => rfl
  clear hb
  go_enter Tryz.func128, Tryz.ntmps128
  go_wp2_with fail
  go_ret
  exact ⟨rfl, Below.refl _ _⟩
theorem sound_any (t : ByteArray) (b : Bool) (hb : b = true ↔ Pr.Snd t) (hm : t.size <= 9223372036854775807) (w : World) (hT : UTab w.heap.size w) : Calls Tryz.prog 130 #[.string t] w (Bo b w) := by
 have C1 := Lib.hid (Tryz.utf8_ValidString t w hm hT.1)
 have C2 := Lib.hid (fun w => Tryz.strings_IndexByte t 0 w)
 clear hT
 cases hv : Lib.validD t.data.toList
 ·obtain rfl : b = false := by
   rw [Bool.eq_false_iff]
   intro hh
   have := (Pr.snd_valid (hb.1 hh)).1
   rw [hv] at this; cases this
  rw [hv] at C1
  clear hv hb
  go_enter Tryz.func130, Tryz.ntmps130
  go_wp2_with (go_at_call 183; ((with_reducible refine (C1.out).mono ?_); rintro e w1 ⟨rfl, b1⟩))
  go_ret
  exact ⟨rfl, b1⟩
 ·rw [hv] at C1
  by_cases hi : Lib.indexByte t.data.toList 0 < 0
  ·obtain rfl : b = true := hb.2 (Pr.snd_yes hv hi)
   have hd : decide (Lib.indexByte t.data.toList 0 < 0) = true := decide_eq_true hi
   have C2' : Hid (∀ w, Calls Tryz.prog 184 #[.string t, .int .u8 0] w fun e w' => e = .returned (.int .i64 (Lib.indexByte t.data.toList 0)) /\ w' = w) := Lib.hid C2.out
   clear hv hb C2 hi
   generalize Lib.indexByte t.data.toList 0 = x at *
   go_enter Tryz.func130, Tryz.ntmps130
   go_wp2_with (first | (go_at_call 183; ((with_reducible refine (C1.out).mono ?_); rintro e w1 ⟨rfl, b1⟩)) | (go_at_call 184; ((with_reducible refine (C2'.out _).mono ?_); rintro e w2 ⟨rfl, hw⟩; rw [hw])))
   go_ret
   exact ⟨rfl, b1⟩
  ·obtain rfl : b = false := by
    rw [Bool.eq_false_iff]
    intro hh
    exact hi (Pr.snd_valid (hb.1 hh)).2
   have hd : decide (Lib.indexByte t.data.toList 0 < 0) = false := decide_eq_false hi
   have C2' : Hid (∀ w, Calls Tryz.prog 184 #[.string t, .int .u8 0] w fun e w' => e = .returned (.int .i64 (Lib.indexByte t.data.toList 0)) /\ w' = w) := Lib.hid C2.out
   clear hv hb C2 hi
   generalize Lib.indexByte t.data.toList 0 = x at *
   go_enter Tryz.func130, Tryz.ntmps130
   go_wp2_with (first | (go_at_call 183; ((with_reducible refine (C1.out).mono ?_); rintro e w1 ⟨rfl, b1⟩)) | (go_at_call 184; ((with_reducible refine (C2'.out _).mono ?_); rintro e w2 ⟨rfl, hw⟩; rw [hw])))
   go_ret
   exact ⟨rfl, b1⟩
theorem size_empty {t : ByteArray} : (t.toList.isEmpty = true) ↔ t = ⟨#[]⟩ := by
 rw [Lib.toList_data]
 constructor
 ·intro h
  cases hh : t.data.toList with
  | nil => exact Pr.bs_inj (by unfold Ru.bs; rw [hh])
  | cons a r => rw [hh] at h; cases h
 ·rintro rfl; rfl
theorem named_any (t : ByteArray) (b : Bool) (hb : b = true ↔ (t ≠ ⟨#[]⟩ /\ Pr.Snd t)) (hm : t.size <= 9223372036854775807) (w : World) (hT : UTab w.heap.size w) : Calls Tryz.prog 129 #[.string t] w (Bo b w) := by
 by_cases h : t = ⟨#[]⟩
 ·obtain rfl : b = false := by
   rw [Bool.eq_false_iff]
   intro hh
   exact (hb.1 hh).1 h
  subst h
  clear hb hT
  go_enter Tryz.func129, Tryz.ntmps129
  go_wp2_with fail
  go_ret
  exact ⟨rfl, Below.refl _ _⟩
 ·have C := Lib.hid (sound_any t b (by rw [hb]; exact ⟨fun x => x.2, fun x => ⟨h, x⟩⟩) hm w hT)
  have e : t.toList.isEmpty = false := by
   rw [Bool.eq_false_iff]
   exact fun hh => h (size_empty.1 hh)
  clear hb hT h
  go_enter Tryz.func129, Tryz.ntmps129
  go_wp2_with (go_at_call 130; ((with_reducible refine (C.out).mono ?_); rintro e w1 ⟨rfl, b1⟩))
  go_ret
  exact ⟨rfl, b1⟩
theorem popens_any (t : ByteArray) (b : Bool) (hb : b = true ↔ (t = ⟨#[40]⟩ ∨ t = ⟨#[91]⟩ ∨ t = ⟨#[123]⟩)) (w : World) : Calls Tryz.prog 132 #[.string t] w (Bo b w) := by
 by_cases h1 : t = ⟨#[40]⟩
 ·obtain rfl : b = true := hb.2 (.inl h1)
  subst h1
  clear hb
  go_enter Tryz.func132, Tryz.ntmps132
  go_wp2_with fail
  go_ret
  exact ⟨rfl, Below.refl _ _⟩
 ·by_cases h2 : t = ⟨#[91]⟩
  ·obtain rfl : b = true := hb.2 (.inr (.inl h2))
   subst h2
   clear hb h1
   go_enter Tryz.func132, Tryz.ntmps132
   go_wp2_with fail
   go_ret
   exact ⟨rfl, Below.refl _ _⟩
  ·by_cases h3 : t = ⟨#[123]⟩
   ·obtain rfl : b = true := hb.2 (.inr (.inr h3))
    subst h3
    clear hb h1 h2
    go_enter Tryz.func132, Tryz.ntmps132
    go_wp2_with fail
    go_ret
    exact ⟨rfl, Below.refl _ _⟩
   ·obtain rfl : b = false := by
     rw [Bool.eq_false_iff]
     intro hh
     rcases hb.1 hh with h | h | h
     ·exact h1 h
     ·exact h2 h
     ·exact h3 h
    have e1 : (t.toList == [40]) = false := by rw [str_test]; exact decide_eq_false h1
    have e2 : (t.toList == [91]) = false := by rw [str_test]; exact decide_eq_false h2
    have e3 : (t.toList == [123]) = false := by rw [str_test]; exact decide_eq_false h3
    clear hb h1 h2 h3
    go_enter Tryz.func132, Tryz.ntmps132
    go_wp2_with fail
    go_ret
    exact ⟨rfl, Below.refl _ _⟩
theorem closes_any (t : ByteArray) (b : Bool) (hb : b = true ↔ (t = ⟨#[41]⟩ ∨ t = ⟨#[93]⟩ ∨ t = ⟨#[125]⟩)) (w : World) : Calls Tryz.prog 133 #[.string t] w (Bo b w) := by
 by_cases h1 : t = ⟨#[41]⟩
 ·obtain rfl : b = true := hb.2 (.inl h1)
  subst h1
  clear hb
  go_enter Tryz.func133, Tryz.ntmps133
  go_wp2_with fail
  go_ret
  exact ⟨rfl, Below.refl _ _⟩
 ·by_cases h2 : t = ⟨#[93]⟩
  ·obtain rfl : b = true := hb.2 (.inr (.inl h2))
   subst h2
   clear hb h1
   go_enter Tryz.func133, Tryz.ntmps133
   go_wp2_with fail
   go_ret
   exact ⟨rfl, Below.refl _ _⟩
  ·by_cases h3 : t = ⟨#[125]⟩
   ·obtain rfl : b = true := hb.2 (.inr (.inr h3))
    subst h3
    clear hb h1 h2
    go_enter Tryz.func133, Tryz.ntmps133
    go_wp2_with fail
    go_ret
    exact ⟨rfl, Below.refl _ _⟩
   ·obtain rfl : b = false := by
     rw [Bool.eq_false_iff]
     intro hh
     rcases hb.1 hh with h | h | h
     ·exact h1 h
     ·exact h2 h
     ·exact h3 h
    have e1 : (t.toList == [41]) = false := by rw [str_test]; exact decide_eq_false h1
    have e2 : (t.toList == [93]) = false := by rw [str_test]; exact decide_eq_false h2
    have e3 : (t.toList == [125]) = false := by rw [str_test]; exact decide_eq_false h3
    clear hb h1 h2 h3
    go_enter Tryz.func133, Tryz.ntmps133
    go_wp2_with fail
    go_ret
    exact ⟨rfl, Below.refl _ _⟩
end Go.Proofs.YtkcabpjfgbghjaaGreatDoor
