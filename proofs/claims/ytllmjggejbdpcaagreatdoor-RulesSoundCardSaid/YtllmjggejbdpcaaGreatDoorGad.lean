/-
  Plain: texts as characters: when a text is one, and which. No run of the program in this text.
-/
import Derived.Test.YtllmjggejbdpcaaGreatDoorGac
import Derived.Lib.MapLaws
import Derived.Lib.TrimUEq
import Derived.Lib.ValidU
import Derived.Test.YtllmjggejbdpcaaGreatDoorGab
import Derived.Lib.OthersKept
import Derived.Lib.FrozenHead2
import Derived.Lib.Builder
import Derived.Shelf.Strings.BuilderX
import Derived.Shelf.Unicode.ValidAny
import Derived.Shelf.Spec.TrailingZeros
import Derived.Lib.TrailingZeros
import Derived.Test.YtllmjggejbdpcaaGreatDoorGaa
import Derived.OneCell
import Derived.Laws.BytesArg
import Derived.Laws.Bits64b
import Derived.LoopTactic
import Derived.Lib.LaidU8T
import Derived.Lib.Hide
import Derived.Lib.AppendIntMem
import Derived.Lib.SmallJoins
import Derived.Lib.ItoaLen
import Derived.BigGuard
import Derived.Deep.LoopGhost
import Derived.WalkSpells
import Derived.WalkLawsBesides
import Derived.Maps.Own
import Derived.Maps.Views
import Derived.Laws.EntriesVeiled
import Derived.Laws.NewBlocks
import Derived.Deep.RegionWith
import Derived.Deep.RegionHeld3
set_option maxHeartbeats 16000000
set_option maxRecDepth 100000
namespace Go.Proofs.YtllmjggejbdpcaaGreatDoor
namespace Pr
open Ru Tk
open Go.Lib (encodeRuneZ)
def Txt (t : ByteArray) (cs : List Int) : Prop := bs t = wr cs /\ ∀ c ∈ cs, Is c
theorem wr_cons (c : Int) (l : List Int) : wr (c :: l) = encodeRuneZ c ++ wr l := rfl
theorem wr_nil : wr [] = [] := rfl
theorem wr_app (a b : List Int) : wr (a ++ b) = wr a ++ wr b := by unfold wr; rw [List.flatMap_append]
theorem bs_inj {s t : ByteArray} (h : bs s = bs t) : s = t := by
 have h1 : s.data.toList = t.data.toList := by
  unfold bs at h
  apply List.ext_getElem
  ·have := congrArg List.length h
   simpa using this
  ·intro i h1 h2
   have h3 : (s.data.toList.map fun b => (b.toNat : Int))[i]? = (t.data.toList.map fun b => (b.toNat : Int))[i]? := by rw [h]
   rw [List.getElem?_map, List.getElem?_map, List.getElem?_eq_getElem h1, List.getElem?_eq_getElem h2] at h3
   simp only [Option.map_some, Option.some.injEq] at h3
   exact UInt8.toNat_inj.1 (by omega)
 cases s; cases t
 simp only at h1
 congr 1
 exact Array.ext' h1
theorem str_bs (l : List Int) : bs (str l) = wr l := bs_str (wr_by l)
theorem Txt.str {t : ByteArray} {cs : List Int} (h : Txt t cs) : t = str cs := bs_inj (by rw [h.1, str_bs])
theorem txt_str {cs : List Int} (h : ∀ c ∈ cs, Is c) : Txt (str cs) cs := ⟨str_bs cs, h⟩
theorem enc_split {c d : Int} {r s : List Int} (hc : Is c) (hd : Is d) (h : encodeRuneZ c ++ r = encodeRuneZ d ++ s) : c = d /\ r = s := by
 have h1 := enc_ch hc r
 have h2 := enc_ch hd s
 rw [h] at h1
 have e1 : c = d := h1.1.symm.trans h2.1
 subst e1
 exact ⟨rfl, List.append_cancel_left h⟩
theorem enc_pos (c : Int) : 1 <= (encodeRuneZ c).length := (Lib.encodeRuneZ_length c).1
theorem wr_pre : ∀ (a cs rest : List Int), (∀ c ∈ a, Is c) -> (∀ c ∈ cs, Is c) -> wr a ++ rest = wr cs -> ∃ cs', cs = a ++ cs' /\ rest = wr cs'
 | [], cs, rest, _, _, h => ⟨cs, rfl, h⟩
 | c :: a, [], rest, _, _, h => by
   exfalso
   have h1 := congrArg List.length h
   rw [wr_cons, wr_nil, List.length_append, List.length_append, List.length_nil] at h1
   have := enc_pos c
   omega
 | c :: a, d :: cs, rest, ha, hc, h => by
   rw [wr_cons, wr_cons, List.append_assoc] at h
   obtain ⟨rfl, h2⟩ := enc_split (ha c (by simp)) (hc d (by simp)) h
   obtain ⟨cs', rfl, e⟩ := wr_pre a cs rest (fun x hx => ha x (by simp [hx])) (fun x hx => hc x (by simp [hx])) h2
   exact ⟨cs', rfl, e⟩
theorem wr_inj {a b : List Int} (ha : ∀ c ∈ a, Is c) (hb : ∀ c ∈ b, Is c) (h : wr a = wr b) : a = b := by
 obtain ⟨cs, rfl, e⟩ := wr_pre a b [] ha hb (by rw [List.append_nil]; exact h)
 cases cs with
 | nil => rw [List.append_nil]
 | cons c r =>
   exfalso
   have h1 := congrArg List.length e
   rw [wr_cons, List.length_append, List.length_nil] at h1
   have := enc_pos c
   omega
theorem Txt.one {t : ByteArray} {a b : List Int} (ha : Txt t a) (hb : Txt t b) : a = b := wr_inj ha.2 hb.2 (ha.1.symm.trans hb.1)
theorem decN_enc {c : Int} (h : Is c) (r : List Int) (n b0 b1 b2 b3 : Nat) (hn : (encodeRuneZ c).length <= n) (h0 : (b0 : Int) = g (encodeRuneZ c ++ r) 0) (h1 : (b1 : Int) = g (encodeRuneZ c ++ r) 1) (h2 : (b2 : Int) = g (encodeRuneZ c ++ r) 2) (h3 : (b3 : Int) = g (encodeRuneZ c ++ r) 3) :
 ((Lib.decodeN n b0 b1 b2 b3).1 : Int) = c /\ (Lib.decodeN n b0 b1 b2 b3).2 = (encodeRuneZ c).length := by
 unfold Is at h
 by_cases c1 : c <= 127
 ·rw [Lib.encodeRuneZ_one h.1 c1] at h0 ⊢
  simp only [List.cons_append, List.nil_append, g_zero] at h0
  unfold Lib.decodeN
  rw [if_pos (by omega)]
  exact ⟨h0, rfl⟩
 ·by_cases c2 : c <= 2047
  ·rw [Lib.encodeRuneZ_two (by omega) c2] at hn h0 h1 ⊢
   simp only [List.cons_append, List.nil_append, g_zero, g_succ, List.length_cons, List.length_nil] at hn h0 h1
   unfold Lib.decodeN
   rw [if_neg (by omega), if_pos (by omega), if_pos (by omega)]
   refine ⟨?_, rfl⟩
   simp only
   omega
  ·by_cases c3 : c <= 65535
   ·rw [Lib.encodeRuneZ_three (by omega)] at hn h0 h1 h2 ⊢
    simp only [List.cons_append, List.nil_append, g_zero, g_succ, List.length_cons, List.length_nil] at hn h0 h1 h2
    unfold Lib.decodeN
    rw [if_neg (by omega), if_neg (by omega), if_pos (by omega), if_pos (by omega)]
    refine ⟨?_, rfl⟩
    simp only
    omega
   ·rw [Lib.encodeRuneZ_four (by omega) (by omega)] at hn h0 h1 h2 h3 ⊢
    simp only [List.cons_append, List.nil_append, g_zero, g_succ, List.length_cons, List.length_nil] at hn h0 h1 h2 h3
    unfold Lib.decodeN
    rw [if_neg (by omega), if_neg (by omega), if_neg (by omega), if_pos (by omega), if_pos (by omega)]
    refine ⟨?_, rfl⟩
    simp only
    omega
theorem getD_num (l : List UInt8) (i : Nat) : ((l.getD i 0).toNat : Int) = g (l.map fun b => (b.toNat : Int)) i := by
 unfold g
 rw [List.getD_eq_getElem?_getD, List.getD_eq_getElem?_getD, List.getElem?_map]
 cases l[i]? <;> rfl
theorem dec_at {t : ByteArray} {pos : Nat} {c : Int} {r : List Int} (hc : Is c) (h : (bs t).drop pos = encodeRuneZ c ++ r) : ((Utf8.decode t pos).1 : Int) = c /\ (Utf8.decode t pos).2 = (encodeRuneZ c).length /\ pos < t.size := by
 have hl := congrArg List.length h
 rw [List.length_drop, List.length_append, bs_len] at hl
 have hp := enc_pos c
 have hs : t.data.toList.length = t.size := by simp
 rw [Lib.decode_N]
 have hg : ∀ i, ((t.data.toList.getD (pos + i) 0).toNat : Int) = g (encodeRuneZ c ++ r) i := fun i => by
  rw [<- h, getD_num, g_drop]; rfl
 obtain ⟨e1, e2⟩ := decN_enc hc r (t.data.toList.length - pos) _ _ _ _ (by omega) (hg 0) (hg 1) (hg 2) (hg 3)
 exact ⟨e1, e2, by omega⟩
theorem decL_enc {l : List UInt8} {c : Int} {r : List Int} (hc : Is c) (h : (l.map fun b => (b.toNat : Int)) = encodeRuneZ c ++ r) : ((Lib.decodeL l).1 : Int) = c /\ (Lib.decodeL l).2 = (encodeRuneZ c).length := by
 have hl := congrArg List.length h
 rw [List.length_map, List.length_append] at hl
 rw [Lib.decodeL_N]
 have hg : ∀ i, ((l.getD i 0).toNat : Int) = g (encodeRuneZ c ++ r) i := fun i => by rw [<- h, getD_num]
 exact decN_enc hc r l.length _ _ _ _ (by omega) (hg 0) (hg 1) (hg 2) (hg 3)
theorem valid_yes : ∀ (n : Nat) (l : List UInt8) (cs : List Int), (∀ c ∈ cs, Is c) -> (l.map fun b => (b.toNat : Int)) = wr cs -> Lib.validGoD n l = true
 | 0, _, _, _, _ => rfl
 | n + 1, l, [], _, h => by
   have hl : l = [] := by
    have := congrArg List.length h
    rw [wr_nil] at this
    simpa using this
   subst hl
   unfold Lib.validGoD
   rw [if_pos rfl]
 | n + 1, l, c :: cs, hc, h => by
   rw [wr_cons] at h
   obtain ⟨e1, e2⟩ := decL_enc (hc c (by simp)) h
   unfold Lib.validGoD
   by_cases h0 : l = []
   ·rw [if_pos h0]
   ·rw [if_neg h0]
    have hw := Lib.encodeRuneZ_length c
    rw [if_neg]
    ·refine valid_yes n _ cs (fun x hx => hc x (by simp [hx])) ?_
     rw [List.map_drop, h, e2, List.drop_left]
    ·rintro ⟨a1, a2⟩
     have hc65 : c = 65533 := by rw [<- e1, a1]; rfl
     rw [e2, hc65] at a2
     revert a2
     decide
theorem valid_no : ∀ (n : Nat) (l : List UInt8), l.length <= n -> Lib.validGoD n l = true -> ∃ cs, (∀ c ∈ cs, Is c) /\ (l.map fun b => (b.toNat : Int)) = wr cs
 | n, [], _, _ => ⟨[], by simp, rfl⟩
 | 0, a :: l, h, _ => by simp at h
 | n + 1, a :: l, hl, h => by
   unfold Lib.validGoD at h
   have hne : a :: l ≠ [] := by simp
   rw [if_neg hne] at h
   split at h
   ·cases h
   ·rename_i hv
    have he := Lib.encode_decode (a :: l) hne hv
    have hw := Lib.decodeL_width (a :: l)
    have hle := Lib.decodeL_le (a :: l) hne
    have hN := Lib.decodeL_N (a :: l)
    have hi := decode_is (a :: l).length ((a :: l).getD 0 0).toNat ((a :: l).getD 1 0).toNat ((a :: l).getD 2 0).toNat ((a :: l).getD 3 0).toNat (by simp) (UInt8.toNat_lt _) (UInt8.toNat_lt _) (UInt8.toNat_lt _) (UInt8.toNat_lt _) (by rw [<- hN]; exact hv)
    rw [<- hN] at hi
    have his : Is ((Lib.decodeL (a :: l)).1 : Int) := by rw [hi.1]; exact ch_is (by omega)
    obtain ⟨cs, h1, h2⟩ := valid_no n ((a :: l).drop (Lib.decodeL (a :: l)).2) (by rw [List.length_drop]; omega) h
    refine ⟨((Lib.decodeL (a :: l)).1 : Int) :: cs, ?_, ?_⟩
    ·intro c hc
     rcases List.mem_cons.1 hc with rfl | hc
     ·exact his
     ·exact h1 c hc
    ·rw [wr_cons, <- h2]
     have e3 : ((a :: l).take (Lib.decodeL (a :: l)).2).map (fun b => (b.toNat : Int)) = encodeRuneZ ((Lib.decodeL (a :: l)).1 : Int) := by
      rw [<- he]
      unfold Lib.encodeRune
      rw [List.map_map]
      have hb := Lib.encodeRuneZ_byte ((Lib.decodeL (a :: l)).1 : Int)
      have : ∀ x ∈ encodeRuneZ ((Lib.decodeL (a :: l)).1 : Int), ((fun b : UInt8 => (b.toNat : Int)) ∘ fun x : Int => x.toNat.toUInt8) x = x := fun x hx => by
       have := hb x hx
       simp only [Function.comp]
       rw [show x.toNat.toUInt8.toNat = x.toNat % 256 from UInt8.toNat_ofNat']
       omega
      rw [List.map_congr_left this]
      simp
     rw [<- e3, <- List.map_append, List.take_append_drop]
theorem valid_iff (t : ByteArray) : Lib.validD t.data.toList = true ↔ ∃ cs, Txt t cs := by
 constructor
 ·intro h
  obtain ⟨cs, h1, h2⟩ := valid_no _ _ (Nat.le_refl _) h
  exact ⟨cs, h2, h1⟩
 ·rintro ⟨cs, h1, h2⟩
  exact valid_yes _ _ cs h2 h1
theorem mem_wr {c : Int} (h0 : 0 <= c) (h1 : c < 128) : ∀ {cs : List Int}, (∀ d ∈ cs, Is d) -> (c ∈ wr cs ↔ c ∈ cs)
 | [], _ => by simp [wr_nil]
 | d :: cs, h => by
   have ih := mem_wr h0 h1 (cs := cs) (fun x hx => h x (by simp [hx]))
   rw [wr_cons, List.mem_append, ih, List.mem_cons]
   have : c ∈ encodeRuneZ d ↔ c = d := by
    have hd := h d (by simp)
    unfold Is at hd
    by_cases c1 : d <= 127
    ·rw [Lib.encodeRuneZ_one hd.1 c1]; simp
    ·by_cases c2 : d <= 2047
     ·rw [Lib.encodeRuneZ_two (by omega) c2]; simp only [List.mem_cons, List.not_mem_nil, or_false]; omega
     ·by_cases c3 : d <= 65535
      ·rw [Lib.encodeRuneZ_three (by omega)]; simp only [List.mem_cons, List.not_mem_nil, or_false]; omega
      ·rw [Lib.encodeRuneZ_four (by omega) (by omega)]; simp only [List.mem_cons, List.not_mem_nil, or_false]; omega
   rw [this]
theorem wr_asc' {l : List Int} (h : ∀ c ∈ l, 0 <= c /\ c <= 127) : wr l = l := wr_asc l h
theorem txt_size {t : ByteArray} {cs : List Int} (h : Txt t cs) : t.size = (wr cs).length := by rw [<- bs_len, h.1]
theorem wr_len_ge : ∀ (cs : List Int), cs.length <= (wr cs).length
 | [] => by simp
 | c :: cs => by
   have := wr_len_ge cs
   have := enc_pos c
   rw [wr_cons, List.length_append, List.length_cons]; omega
theorem txt_nil {t : ByteArray} {cs : List Int} (h : Txt t cs) : t.size = 0 ↔ cs = [] := by
 rw [txt_size h]
 constructor
 ·intro h0
  have := wr_len_ge cs
  exact List.eq_nil_of_length_eq_zero (by omega)
 ·rintro rfl; rfl
end Pr
end Go.Proofs.YtllmjggejbdpcaaGreatDoor
namespace Go.Proofs.YtllmjggejbdpcaaGreatDoor
open Go.RowKit
def Bu (w : World) (b : Nat) (l : List Int) : Prop := Lib.IsBuilderF 102 5 b b (nums .u8 l) w
def Bw (b : Nat) (w w' : World) : Prop := Below b w w' /\ Lib.OthersKept 5 (some b) w w'
theorem Bw.refl (b : Nat) (w : World) : Bw b w w := ⟨Below.refl _ _, Lib.OthersKept.refl _ _ _⟩
theorem Bw.trans {b : Nat} {w w1 w2 : World} (h : Bw b w w1) (k : Bw b w1 w2) : Bw b w w2 := ⟨h.1.trans k.1, h.2.trans k.2⟩
theorem Bw.drew {b : Nat} {w w1 : World} (h : Bw b w w1) : Bw b w w1.drew := ⟨h.1.drew, h.2.drew⟩
theorem Bw.alloc {b : Nat} {w w1 : World} (h : Bw b w w1) (hb : b <= w1.heap.size) (o : Obj) : Bw b w (w1.alloc o) := ⟨h.1.alloc hb o, h.2.alloc o⟩
theorem Bu.lt {w : World} {b : Nat} {l : List Int} (h : Bu w b l) : b < w.heap.size := by
 rcases h with h | h
 ·exact Lib.BuilderAtF.lt h
 ·exact Lib.BuilderAtF.lt h
theorem Bu.alloc {w : World} {b : Nat} {l : List Int} (h : Bu w b l) (o : Obj) : Bu (w.alloc o) b l := Lib.IsBuilderF.alloc h o
theorem Bu.drew {w : World} {b : Nat} {l : List Int} (h : Bu w b l) : Bu w.drew b l := h
theorem Bu.new (w : World) : Bu (w.alloc (.cells #[.pointer none, .slice none 0 0] 102)) w.heap.size [] := Lib.IsBuilderF.of (Lib.fresh_isBuilder 102 5 w)
def Used (w : World) (b : Nat) (l : List Int) : Prop := Lib.BuilderAtF 102 5 b b (.pointer (some ⟨b, 0, none⟩)) (nums .u8 l) w
theorem Used.parts {w : World} {b : Nat} {l : List Int} (h : Used w b l) : ∃ ao cap, w.heap[b]? = some (.cells #[.pointer (some ⟨b, 0, none⟩), .slice ao l.length cap] 102 (0, 0)) /\ w.ownsRowF b 5 1 (.slice ao l.length cap) l.length (nums .u8 l) /\ (Value.slice ao l.length cap).ownBlock ≠ some b /\ b < w.heap.size := by
 have hlt := Lib.BuilderAtF.lt h
 obtain ⟨_, v, hbk, hown, hne⟩ := h
 have e : (nums .u8 l).length = l.length := nums_len _ _
 rw [e] at hown
 obtain ⟨ao, cap, rfl⟩ : ∃ ao cap, v = .slice ao l.length cap := by
  rcases hown.2 with ⟨hv, h0⟩ | ⟨g, cap, cur, fz, hv, _⟩
  ·exact ⟨none, 0, by rw [hv, h0]⟩
  ·exact ⟨_, _, hv⟩
 exact ⟨ao, cap, hbk, hown, hne, hlt⟩
end Go.Proofs.YtllmjggejbdpcaaGreatDoor
namespace Go.Proofs
open Go.Shelf Go.RowKit
def Tryz.lays196_ren : Go.Shelf.Ren := ⟨fun | 196 => 176 | 259 => 209 | n => n, fun | 0 => 0 | 3 => 3 | 4 => 4 | 5 => 5 | 9 => 9 | 12 => 12 | 46 => 189 | 53 => 215 | 119 => 207 | 138 => 209 | 139 => 210 | n => n, fun | 3 => 1 | 4 => 2 | n => n⟩
theorem Tryz.lays196 : Go.Proofs.Lays.n196 Tryz.prog Tryz.lays196_ren := {
 mixed := by kernel_rfl
 f196 := Tryz.func176.trans (congrArg some (by kernel_rfl))
 f259 := Tryz.func209.trans (congrArg some (by kernel_rfl))
 t0 := Tryz.underlying0
 a0 := Tryz.isAgg0
 z0 := Tryz.sizeOf0
 v0 := Tryz.zeroValue0
 t3 := Tryz.underlying3
 a3 := Tryz.isAgg3
 z3 := Tryz.sizeOf3
 v3 := Tryz.zeroValue3
 t4 := Tryz.underlying4
 a4 := Tryz.isAgg4
 z4 := Tryz.sizeOf4
 v4 := Tryz.zeroValue4
 t5 := Tryz.underlying5
 a5 := Tryz.isAgg5
 z5 := Tryz.sizeOf5
 v5 := Tryz.zeroValue5
 t9 := Tryz.underlying9
 a9 := Tryz.isAgg9
 z9 := Tryz.sizeOf9
 v9 := Tryz.zeroValue9
 t12 := Tryz.underlying12
 a12 := Tryz.isAgg12
 z12 := Tryz.sizeOf12
 v12 := Tryz.zeroValue12
 t46 := Tryz.underlying189
 a46 := Tryz.isAgg189
 z46 := Tryz.sizeOf189
 v46 := Tryz.zeroValue189
 t53 := Tryz.underlying215
 a53 := Tryz.isAgg215
 z53 := Tryz.sizeOf215
 v53 := Tryz.zeroValue215
 t119 := Tryz.underlying207
 a119 := Tryz.isAgg207
 z119 := Tryz.sizeOf207
 t138 := Tryz.underlying209
 a138 := Tryz.isAgg209
 z138 := Tryz.sizeOf209
 v138 := Tryz.zeroValue209
 t139 := Tryz.underlying210
 a139 := Tryz.isAgg210
 z139 := Tryz.sizeOf210
 v139 := Tryz.zeroValue210
 g3 := by kernel_rfl
 g4 := by kernel_rfl }
theorem Tryz.utf8_ValidString (s : ByteArray) (w : World) (hs : s.size <= 9223372036854775807) (hT : Lib.Utf8Tabs 1 2 w) :
 Calls Tryz.prog 176 #[.string s] w fun e w' => e = .returned (.bool (Lib.validD s.data.toList)) /\ Below w.heap.size w w' := Any.utf8_ValidString Tryz.lays196 s w hs hT
end Go.Proofs
namespace Go.Proofs.YtllmjggejbdpcaaGreatDoor
open Go.RowKit
namespace Ru
theorem isB_lib (c : Int) : Lib.validRune c = isB c := by
 unfold Lib.validRune isB
 rw [Bool.eq_iff_iff]; simp; omega
end Ru
theorem is_any (c : Int) (w : World) :
 Calls Tryz.prog 194 #[.int .i32 c] w fun e w' => e = .returned (.bool (Ru.isB c)) /\ w = w' := by
 rw [<- Ru.isB_lib]
 go_enter Tryz.func194, Tryz.ntmps194
 go_wp2_with (go_at_call 214; refine (Tryz.utf8_ValidRune _ _).mono ?_; rintro e w' ⟨rfl, rfl⟩)
 go_ret
 exact ⟨rfl, rfl⟩
theorem letter_any (c : Int) (w : World) :
 Calls Tryz.prog 195 #[.int .i32 c] w fun e w' => e = .returned (.bool (Ru.letB c)) /\ w = w' := by
 by_cases a1 : 97 <= c <;> by_cases a2 : c <= 122 <;> by_cases a3 : 65 <= c <;> by_cases a4 : c <= 90
 all_goals try omega
 all_goals
  go_enter Tryz.func195, Tryz.ntmps195
  go_wp2_with fail
  go_ret
  exact ⟨ret_bool (by unfold Ru.letB; simp; try omega), rfl⟩
theorem isdigit_any (c : Int) (w : World) :
 Calls Tryz.prog 157 #[.int .i32 c] w fun e w' => e = .returned (.bool (Ru.digB c)) /\ w = w' := by
 by_cases a1 : 48 <= c <;> by_cases a2 : c <= 57
 all_goals try omega
 all_goals
  go_enter Tryz.func157, Tryz.ntmps157
  go_wp2_with fail
  go_ret
  exact ⟨ret_bool (by unfold Ru.digB; simp; try omega), rfl⟩
theorem white_any (c : Int) (w : World) :
 Calls Tryz.prog 85 #[.int .i32 c] w fun e w' => e = .returned (.bool (Ru.whiB c)) /\ w = w' := by
 by_cases a1 : c = 9
 ·subst a1
  go_enter Tryz.func85, Tryz.ntmps85
  go_wp2_with fail
  go_ret
  exact ⟨rfl, rfl⟩
 ·by_cases a2 : c = 10
  ·subst a2
   go_enter Tryz.func85, Tryz.ntmps85
   go_wp2_with fail
   go_ret
   exact ⟨rfl, rfl⟩
  ·by_cases a3 : c = 32
   ·subst a3
    go_enter Tryz.func85, Tryz.ntmps85
    go_wp2_with fail
    go_ret
    exact ⟨rfl, rfl⟩
   ·have e1 := Ru.eq_f a1
    have e2 := Ru.eq_f a2
    have e3 := Ru.eq_f a3
    go_enter Tryz.func85, Tryz.ntmps85
    go_wp2_with fail
    go_ret
    exact ⟨ret_bool (by unfold Ru.whiB; simp [a1, a2, a3]), rfl⟩
theorem begins_any (c : Int) (w : World) :
 Calls Tryz.prog 156 #[.int .i32 c] w fun e w' => e = .returned (.bool (Ru.begB c)) /\ w = w' := by
 by_cases a : (97 <= c /\ c <= 122) ∨ (65 <= c /\ c <= 90)
 ·have hd : Ru.letB c = true := decide_eq_true a
  have H := Lib.hid a
  clear a
  go_enter Tryz.func156, Tryz.ntmps156
  go_wp2_with (first | (go_at_call 195; refine (letter_any _ _).mono ?_; rintro e w' ⟨rfl, rfl⟩) | (go_at_call 194; refine (is_any _ _).mono ?_; rintro e w' ⟨rfl, rfl⟩))
  go_ret
  exact ⟨ret_bool (decide_eq_true (Or.inl H.out)).symm, rfl⟩
 ·have hd : Ru.letB c = false := decide_eq_false a
  have H := Lib.hid a
  clear a
  by_cases a1 : c = 95
  ·subst a1
   go_enter Tryz.func156, Tryz.ntmps156
   go_wp2_with (first | (go_at_call 195; refine (letter_any _ _).mono ?_; rintro e w' ⟨rfl, rfl⟩) | (go_at_call 194; refine (is_any _ _).mono ?_; rintro e w' ⟨rfl, rfl⟩))
   go_ret
   exact ⟨rfl, rfl⟩
  ·have e1 := Ru.eq_f a1
   by_cases a2 : 128 <= c
   ·go_enter Tryz.func156, Tryz.ntmps156
    go_wp2_with (first | (go_at_call 195; refine (letter_any _ _).mono ?_; rintro e w' ⟨rfl, rfl⟩) | (go_at_call 194; refine (is_any _ _).mono ?_; rintro e w' ⟨rfl, rfl⟩))
    go_ret
    exact ⟨ret_bool (by unfold Ru.begB Ru.isB; rw [Bool.eq_iff_iff]; simp; have := H.out; omega), rfl⟩
   ·go_enter Tryz.func156, Tryz.ntmps156
    go_wp2_with (first | (go_at_call 195; refine (letter_any _ _).mono ?_; rintro e w' ⟨rfl, rfl⟩) | (go_at_call 194; refine (is_any _ _).mono ?_; rintro e w' ⟨rfl, rfl⟩))
    go_ret
    exact ⟨ret_bool (by unfold Ru.begB; rw [Bool.eq_iff_iff]; simp; have := H.out; omega), rfl⟩
theorem within_any (c : Int) (w : World) :
 Calls Tryz.prog 89 #[.int .i32 c] w fun e w' => e = .returned (.bool (Ru.witB c)) /\ w = w' := by
 unfold Ru.witB
 cases hb : Ru.begB c
 ·by_cases a : 48 <= c /\ c <= 57
  ·have hd : Ru.digB c = true := decide_eq_true a
   have H := Lib.hid a
   clear a
   go_enter Tryz.func89, Tryz.ntmps89
   go_wp2_with (first | (go_at_call 156; refine (begins_any _ _).mono ?_; rintro e w' ⟨rfl, rfl⟩) | (go_at_call 157; refine (isdigit_any _ _).mono ?_; rintro e w' ⟨rfl, rfl⟩))
   go_ret
   exact ⟨ret_bool (decide_eq_true (Or.inl H.out)).symm, rfl⟩
  ·have hd : Ru.digB c = false := decide_eq_false a
   have H := Lib.hid a
   clear a
   by_cases a1 : c = 45
   ·subst a1
    go_enter Tryz.func89, Tryz.ntmps89
    go_wp2_with (first | (go_at_call 156; refine (begins_any _ _).mono ?_; rintro e w' ⟨rfl, rfl⟩) | (go_at_call 157; refine (isdigit_any _ _).mono ?_; rintro e w' ⟨rfl, rfl⟩))
    go_ret
    exact ⟨rfl, rfl⟩
   ·have e1 := Ru.eq_f a1
    go_enter Tryz.func89, Tryz.ntmps89
    go_wp2_with (first | (go_at_call 156; refine (begins_any _ _).mono ?_; rintro e w' ⟨rfl, rfl⟩) | (go_at_call 157; refine (isdigit_any _ _).mono ?_; rintro e w' ⟨rfl, rfl⟩))
    go_ret
    exact ⟨ret_bool (by simp [a1]; have := H.out; omega), rfl⟩
 ·go_enter Tryz.func89, Tryz.ntmps89
  go_wp2_with (first | (go_at_call 156; refine (begins_any _ _).mono ?_; rintro e w' ⟨rfl, rfl⟩) | (go_at_call 157; refine (isdigit_any _ _).mono ?_; rintro e w' ⟨rfl, rfl⟩))
  go_ret
  exact ⟨rfl, rfl⟩
def UTab (B : Nat) (w : World) : Prop := Lib.Utf8Tabs 1 2 w /\ 1 < B /\ 2 < B
theorem UTab.below {B : Nat} {w w' : World} (h : UTab B w) (hb : Below B w w') : UTab B w' :=
 ⟨⟨fun c hc => (hb.cell (p := ⟨_, _, none⟩) h.2.1).trans (h.1.1 c hc), fun i hi => ⟨(hb.cell (p := ⟨_, _, none⟩) h.2.2).trans (h.1.2 i hi).1, (hb.cell (p := ⟨_, _, none⟩) h.2.2).trans (h.1.2 i hi).2⟩⟩, h.2⟩
theorem UTab.of {w : World} (h : Lib.Utf8Tabs 1 2 w) : UTab w.heap.size w :=
 ⟨h, World.block_lt_of_cell? w _ (h.1 0 (by decide)), World.block_lt_of_cell? w _ (h.2 0 (by decide)).1⟩
namespace Ru
theorem rd_len' (l : List Int) : (rd l).length <= l.length := rd_len _ _
theorem rd_ok {l : List Int} (h : By l) : ∀ c ∈ rd l, Is c /\ c ≠ 0 /\ c ≠ 12 /\ c ≠ 13 := rd_is _ _ h
end Ru
theorem UTab.next {w w1 : World} (h : UTab w.heap.size w) (hb : Below w.heap.size w w1) : UTab w1.heap.size w1 := ⟨(h.below hb).1, by have := hb.size; have := h.2; omega⟩
theorem stop_any (n : Int) (w : World) :
 Calls Tryz.prog 173 #[.int .i64 n] w fun e w' => e = .returned (.int .i64 (Fx.stop n)) /\ w = w' := by
 go_enter Tryz.func173, Tryz.ntmps173
 go_wp2
 all_goals (go_ret; exact ⟨ret_int (by unfold Fx.stop; omega), rfl⟩)
def Tab (B : Nat) (w : World) : Prop := Lib.TabBelow Tryz.prog B w "internal/strconv.uint64pow10" .u64 Lib.pow10Tab
theorem sub_byte {c : UInt8} (h : 48 <= (c.toNat : Int)) : ((c.toNat : Int) - 48) = ((Fx.dv c : Nat) : Int) := by unfold Fx.dv; omega
namespace Fx
theorem V_succ (f : Nat -> Nat) (n : Nat) : V f (n + 1) = V f n * 10 + f n := rfl
theorem V_le (f : Nat -> Nat) {a b : Nat} (h : a <= b) : V f a <= V f b := by
 have := V_mono f a (b - a); rw [show a + (b - a) = b by omega] at this; exact this
theorem V_still (f : Nat -> Nat) {a b : Nat} (h0 : V f a = 0) (hf : ∀ i, a <= i -> f i = 0) (h : a <= b) : V f b = 0 := by
 have := V_zero f a h0 hf (b - a); rw [show a + (b - a) = b by omega] at this; exact this
end Fx
namespace Fx
end Fx
namespace Fx
end Fx
end Go.Proofs.YtllmjggejbdpcaaGreatDoor
namespace Go.Proofs.YtllmjggejbdpcaaGreatDoor
namespace Fx
theorem at_app (P R : List UInt8) (i : Nat) : at' (P ++ R) (P.length + i) = at' R i := by
 unfold at'
 rw [List.getD_eq_getElem?_getD, List.getD_eq_getElem?_getD, List.getElem?_append_right (by omega), show P.length + i - P.length = i by omega]
theorem at_app0 (P R : List UInt8) : at' (P ++ R) P.length = at' R 0 := at_app P R 0
theorem at_cons (c : UInt8) (R : List UInt8) : at' (c :: R) 0 = c := rfl
theorem dig_app (P A R : List UInt8) (hA : ∀ c ∈ A, isD c = true) (hR : isD (at' R 0) = false) : dig (P ++ (A ++ R)) P.length = P.length + A.length := by
 unfold dig
 rw [List.drop_left, List.takeWhile_append_of_pos hA]
 have : R.takeWhile isD = [] := by
  cases R with
  | nil => rfl
  | cons c R => rw [List.takeWhile_cons, show isD c = false from hR]; rfl
 rw [this, List.append_nil]
theorem seg_app (P A R : List UInt8) : seg (P ++ (A ++ R)) P.length (P.length + A.length) = A := by
 unfold seg
 rw [List.drop_left, show P.length + A.length - P.length = A.length by omega, List.take_left]
theorem at_of {l P R : List UInt8} {k : Nat} (hl : l = P ++ R) (hk : k = P.length) : at' l k = at' R 0 := by subst hl hk; exact at_app0 P R
theorem dig_of {l P A R : List UInt8} {k : Nat} (hl : l = P ++ (A ++ R)) (hk : k = P.length) (hA : ∀ c ∈ A, isD c = true) (hR : isD (at' R 0) = false) : dig l k = k + A.length := by
 subst hl hk; exact dig_app P A R hA hR
theorem seg_of {l P A R : List UInt8} {a b : Nat} (hl : l = P ++ (A ++ R)) (ha : a = P.length) (hb : b = P.length + A.length) : seg l a b = A := by
 subst hl ha hb; exact seg_app P A R
structure Parts (S W F E fr sg ds : List UInt8) : Prop where
 hS : S = [] ∨ S = [45]
 hW : ∀ c ∈ W, isD c = true
 hW0 : W ≠ []
 hF : (F = [] /\ fr = []) ∨ (F = 46 :: fr /\ fr ≠ [])
 hfr : ∀ c ∈ fr, isD c = true
 hE : E = [] ∨ (E = 101 :: (sg ++ ds) /\ ds ≠ [])
 hds : ∀ c ∈ ds, isD c = true
 hsg : sg = [] ∨ sg = [43] ∨ sg = [45]
variable {S W F E fr sg ds : List UInt8}
theorem isD_head {A R : List UInt8} (h0 : A ≠ []) (h : ∀ c ∈ A, isD c = true) : isD (at' (A ++ R) 0) = true := by
 cases A with
 | nil => exact absurd rfl h0
 | cons c A => exact h c (by simp)
theorem isD_ne {c : UInt8} (h : isD c = true) : c ≠ 43 /\ c ≠ 45 /\ c ≠ 46 := by
 refine ⟨?_, ?_, ?_⟩ <;> (rintro rfl; exact absurd h (by decide))
theorem Parts.spS (h : Parts S W F E fr sg ds) : spS (S ++ (W ++ (F ++ E))) = S.length := by
 rcases h.hS with rfl | rfl
 ·have hd := isD_head (R := F ++ E) h.hW0 h.hW
  have hn := isD_ne hd
  unfold Fx.spS sgn
  rw [List.nil_append, if_neg (by rintro (h | h); exact hn.1 h; exact hn.2.1 h)]; rfl
 ·rfl
theorem Parts.headFE (h : Parts S W F E fr sg ds) : isD (at' (F ++ E) 0) = false := by
 rcases h.hF with ⟨rfl, _⟩ | ⟨rfl, _⟩
 ·rcases h.hE with rfl | ⟨rfl, _⟩ <;> rfl
 ·rfl
theorem Parts.headE (h : Parts S W F E fr sg ds) : isD (at' E 0) = false /\ at' E 0 ≠ 46 := by
 rcases h.hE with rfl | ⟨rfl, _⟩
 ·exact ⟨rfl, by decide⟩
 ·exact ⟨rfl, by rw [at_cons]; decide⟩
theorem Parts.spW (h : Parts S W F E fr sg ds) : spW (S ++ (W ++ (F ++ E))) = S.length + W.length := by
 unfold Fx.spW
 rw [h.spS]
 exact dig_app S W (F ++ E) h.hW h.headFE
theorem Parts.spD (h : Parts S W F E fr sg ds) : spD (S ++ (W ++ (F ++ E))) = S.length + W.length + F.length := by
 unfold Fx.spD
 rw [h.spW]
 have e0 : at' (S ++ (W ++ (F ++ E))) (S.length + W.length) = at' (F ++ E) 0 := by
  rw [<- List.append_assoc, <- List.length_append]; exact at_app0 _ _
 unfold spDof
 rw [e0]
 rcases h.hF with ⟨rfl, _⟩ | ⟨rfl, hf⟩
 ·rw [if_neg (fun c => h.headE.2 c.1)]; rfl
 ·have e1 : dig (S ++ (W ++ (46 :: fr ++ E))) (S.length + W.length + 1) = S.length + W.length + 1 + fr.length := by
   exact dig_of (P := S ++ W ++ [46]) (R := E) (by simp) (by simp only [List.length_append, List.length_cons, List.length_nil]; try omega) h.hfr h.headE.1
  have hp : 0 < fr.length := List.length_pos_iff.2 hf
  rw [e1, if_pos ⟨rfl, by omega⟩, List.length_cons]; omega
theorem Parts.fromE' (h : Parts S W F E fr sg ds) (hE : E = 101 :: (sg ++ ds)) (hd : ds ≠ []) : sgn (S ++ (W ++ (F ++ E))) (S.length + W.length + F.length + 1) = S.length + W.length + F.length + 1 + sg.length := by
 subst hE
 have e1 : at' (S ++ (W ++ (F ++ 101 :: (sg ++ ds)))) (S.length + W.length + F.length + 1) = at' (sg ++ ds) 0 := at_of (P := S ++ W ++ F ++ [101]) (by simp) (by simp only [List.length_append, List.length_cons, List.length_nil]; try omega)
 unfold sgn
 rw [e1]
 rcases h.hsg with rfl | rfl | rfl
 ·have hn := isD_ne (isD_head (R := []) hd h.hds)
  rw [List.append_nil] at hn
  rw [List.nil_append, if_neg (by rintro (h | h); exact hn.1 h; exact hn.2.1 h)]; rfl
 ·rfl
 ·rfl
theorem Parts.digE (h : Parts S W F E fr sg ds) (hE : E = 101 :: (sg ++ ds)) : dig (S ++ (W ++ (F ++ E))) (S.length + W.length + F.length + 1 + sg.length) = S.length + W.length + F.length + 1 + sg.length + ds.length := by
 subst hE
 exact dig_of (P := S ++ W ++ F ++ [101] ++ sg) (R := []) (by simp) (by simp only [List.length_append, List.length_cons, List.length_nil]; try omega) h.hds (by decide)
theorem Parts.spE (h : Parts S W F E fr sg ds) : spE (S ++ (W ++ (F ++ E))) = (S ++ (W ++ (F ++ E))).length := by
 unfold Fx.spE
 rw [h.spD]
 have e0 : at' (S ++ (W ++ (F ++ E))) (S.length + W.length + F.length) = at' E 0 := at_of (P := S ++ W ++ F) (by simp) (by simp only [List.length_append])
 unfold spEof
 rw [e0]
 rcases h.hE with rfl | ⟨hE, hd⟩
 ·rw [if_neg (by intro c; exact absurd c.1 (by decide))]
  simp; omega
 ·have hp : 0 < ds.length := List.length_pos_iff.2 hd
  rw [h.fromE' hE hd, h.digE hE, if_pos ⟨Or.inl (by rw [hE]; rfl), by omega⟩, hE]
  simp; omega
theorem Parts.isDec (h : Parts S W F E fr sg ds) : isDec (S ++ (W ++ (F ++ E))) = true := by
 unfold Fx.isDec
 apply decide_eq_true
 have hp : 0 < W.length := List.length_pos_iff.2 h.hW0
 unfold len
 rw [h.spD, h.spS, if_neg (by omega), h.spE]
 refine ⟨?_, rfl⟩
 simp only [List.length_append]; omega
theorem Parts.digs (h : Parts S W F E fr sg ds) : digs (S ++ (W ++ (F ++ E))) = W.map dv ++ fr.map dv := by
 unfold Fx.digs
 rw [h.spS, h.spW, h.spD, seg_app]
 congr 2
 rcases h.hF with ⟨rfl, rfl⟩ | ⟨rfl, _⟩
 ·unfold seg
  rw [List.length_nil, show S.length + W.length + 0 - (S.length + W.length + 1) = 0 by omega]; rfl
 ·exact seg_of (P := S ++ W ++ [46]) (R := E) (by simp) (by simp only [List.length_append, List.length_cons, List.length_nil]; try omega) (by simp only [List.length_append, List.length_cons, List.length_nil]; try omega)
theorem Parts.place0 (h : Parts S W F E fr sg ds) : place0 (S ++ (W ++ (F ++ E))) = W.length := by
 unfold Fx.place0; rw [h.spS, h.spW]; omega
def val (D : List Nat) : Nat := D.foldl (fun a d => a * 10 + d) 0
end Fx
end Go.Proofs.YtllmjggejbdpcaaGreatDoor
namespace Go.Proofs.YtllmjggejbdpcaaGreatDoor
namespace Fx
end Fx
namespace Pr
open Ru Tk
end Pr
end Go.Proofs.YtllmjggejbdpcaaGreatDoor
namespace Go.Proofs.YtllmjggejbdpcaaGreatDoor
namespace Pr
open Ru Tk
abbrev PT := Int × List Int × Int
def toTok (t : PT) : Tok := (t.1, str t.2.1, t.2.2)
def Del (c : Int) : Prop := begB c = false /\ ¬ (48 <= c /\ c <= 57) /\ c ≠ 9 /\ c ≠ 10 /\ c ≠ 12 /\ c ≠ 13 /\ c ≠ 32 /\ c ≠ 34 /\ c ≠ 39 /\ c ≠ 40 /\ c ≠ 41 /\ c ≠ 91 /\ c ≠ 93 /\ c ≠ 123 /\ c ≠ 125 /\ c ≠ 58 /\ c ≠ 59 /\ c ≠ 44
def Kd (k : Int) (l : List Int) (n : Int) : Prop :=
 (k = 1 /\ l = [] /\ n = 0) ∨ ((k = 2 ∨ k = 3 ∨ k = 4 ∨ k = 5) /\ l ≠ [] /\ n = 0) ∨ ((k = 6 ∨ k = 7) /\ n = 0) ∨
 ((k = 8 ∨ k = 9) /\ l = [] /\ n = Fx.stop n) ∨ (k = 10 /\ l ≠ [] /\ n = Fx.stop n) ∨ (k = 11 /\ (∃ c, l = [c] /\ Del c) /\ n = 0) ∨
 (k = 12 /\ (l = [40] ∨ l = [91] ∨ l = [123]) /\ n = 0) ∨ (k = 13 /\ (l = [41] ∨ l = [93] ∨ l = [125]) /\ n = 0) ∨ ((k = 14 ∨ k = 15 ∨ k = 16) /\ l = [] /\ n = 0)
def One (t : PT) : Prop := Ok t.2.1 /\ Kd t.1 t.2.1 t.2.2
def Stp (x : Int) : Prop := x = -1 ∨ x = 47 ∨ x = 10 ∨ x = 41 ∨ x = 93 ∨ x = 125 ∨ x = 34 ∨ x = 58 ∨ x = 59 ∨ x = 44
section
variable {pre post l : List Int}
end
end Pr
end Go.Proofs.YtllmjggejbdpcaaGreatDoor
namespace Go.Proofs.YtllmjggejbdpcaaGreatDoor
namespace Pr
open Ru Tk
def F1 (a : Int) : Prop := a = 1 ∨ a = 3 ∨ a = 12 ∨ a = 13 ∨ a = 6 ∨ a = 14 ∨ a = 15 ∨ a = 16
def F2 (b : Int) : Prop := b = 1 ∨ b = 13 ∨ b = 6 ∨ b = 14 ∨ b = 15 ∨ b = 16
instance (a : Int) : Decidable (F1 a) := by unfold F1; exact inferInstance
instance (a : Int) : Decidable (F2 a) := by unfold F2; exact inferInstance
def nextK (r : List PT) : Option Int := r.head?.map fun t => t.1
def Stn (t : PT) (nx : Option Int) : Prop := (t.1 = 1 -> nx ≠ some 1) /\ (t.1 = 7 -> nx = some 1) /\ (t.1 = 11 -> t.2.1 = [92] -> nx = some 1 ∨ nx = none)
def Right : List PT -> Prop
 | [] => True
 | t :: r => One t /\ Stn t (nextK r) /\ Right r
def Rd (l : List Int) : Prop := ∀ c ∈ l, Is c /\ c ≠ 0 /\ c ≠ 12 /\ c ≠ 13
theorem Rd.app {a b : List Int} (ha : Rd a) (hb : Rd b) : Rd (a ++ b) := fun c hc => by
 rcases List.mem_append.1 hc with hc | hc
 ·exact ha c hc
 ·exact hb c hc
theorem Rd.nil : Rd [] := fun c hc => by cases hc
theorem rd_small {c : Int} (h0 : 0 < c) (h1 : c < 128) (h2 : c ≠ 12) (h3 : c ≠ 13) : Is c /\ c ≠ 0 /\ c ≠ 12 /\ c ≠ 13 := by unfold Is; omega
theorem Rd.one {c : Int} (h0 : 0 < c) (h1 : c < 128) (h2 : c ≠ 12) (h3 : c ≠ 13) : Rd [c] := fun d hd => by
 rw [List.mem_singleton] at hd; subst hd; exact rd_small h0 h1 h2 h3
theorem Right.all : ∀ {ts : List PT}, Right ts -> ∀ t ∈ ts, One t
 | [], _ => fun t ht => by cases ht
 | t :: r, h => fun u hu => by
   rcases List.mem_cons.1 hu with rfl | hu
   ·exact h.1
   ·exact Right.all h.2.2 u hu
end Pr
end Go.Proofs.YtllmjggejbdpcaaGreatDoor
namespace Go.Proofs.YtllmjggejbdpcaaGreatDoor
open Go.RowKit
structure PTab (B : Nat) (w : World) : Prop where
 u : UTab B w
 t : Tab B w
 z : TabAt 8 Lib.deBruijn64tab w
 zl : 8 < B
theorem PTab.below {B : Nat} {w w1 : World} (h : PTab B w) (hb : Below B w w1) : PTab B w1 :=
 ⟨h.u.below hb, Lib.TabBelow.on h.t hb, fun j hj => (hb.cell (p := ⟨_, _, none⟩) h.zl).trans (h.z j hj), h.zl⟩
theorem PTab.more {B C : Nat} {w : World} (h : PTab B w) (hB : B <= C) : PTab C w :=
 ⟨⟨h.u.1, by have := h.u.2; omega⟩, fun w' hw => h.t w' (hw.mono hB), h.z, by have := h.zl; omega⟩
theorem PTab.next {w w1 : World} (h : PTab w.heap.size w) (hb : Below w.heap.size w w1) : PTab w1.heap.size w1 := (h.below hb).more hb.size
theorem Bu.below {w w1 : World} {b : Nat} {l : List Int} (h : Bu w b l) (hb : Below w.heap.size w w1) : Bu w1 b l := by
 have hlt := h.lt
 have key : ∀ p, Lib.BuilderAtF 102 5 b b p (nums .u8 l) w -> Lib.BuilderAtF 102 5 b b p (nums .u8 l) w1 := by
  rintro p ⟨h0, v, hbk, hown, hne⟩
  refine ⟨h0, v, (hb.block b hlt).trans hbk, hown.kept (row := none) ⟨hb.os, hb.tape, hb.output, hb.size, fun k hk _ => hb.block k hk⟩ ?_, hne⟩
  cases v.ownBlock with
  | none => exact .inl rfl
  | some x => exact .inr (by simp)
 rcases h with h | h
 ·exact .inl (key _ h)
 ·exact .inr (key _ h)
theorem Bw.of_below {w w1 : World} {b : Nat} (hb : Below w.heap.size w w1) (hs : b <= w.heap.size) : Bw b w w1 := by
 refine ⟨hb.mono hs, fun k o hk _ _ => ?_⟩
 have hlt : k < w.heap.size := by
  by_cases c : k < w.heap.size
  ·exact c
  ·rw [Array.getElem?_eq_none (by omega)] at hk; cases hk
 exact (hb.block k hlt).trans hk
namespace Pr
open Ru Tk
def pos (cs : List Int) (k : Nat) : Nat := (wr (cs.take k)).length
end Pr
namespace Pr
open Ru Tk
end Pr
namespace Pr
open Ru Tk
end Pr
namespace Pr
open Ru Tk
def Snd (t : ByteArray) : Prop := ∃ cs, Txt t cs /\ Ok cs
theorem idx_neg (c : UInt8) : ∀ l : List UInt8, Lib.indexByte l c < 0 ↔ c ∉ l
 | [] => by simp [Lib.indexByte]
 | b :: l => by
   have ih := idx_neg c l
   have hg := Lib.indexByte_ge l c
   unfold Lib.indexByte
   rw [List.mem_cons]
   by_cases h : b = c
   ·rw [if_pos (by rw [h]; simp)]
    constructor
    ·intro h0; omega
    ·intro h0; exact absurd (.inl h.symm) h0
   ·rw [if_neg (by simpa using h)]
    have hc : ¬ c = b := fun e => h e.symm
    by_cases h1 : Lib.indexByte l c == -1
    ·rw [if_pos h1]
     have h1 : Lib.indexByte l c = -1 := by simpa using h1
     have := ih.1 (by omega)
     constructor
     ·intro _ hh
      rcases hh with hh | hh
      ·exact hc hh
      ·exact this hh
     ·intro _; omega
    ·rw [if_neg h1]
     have h1 : Lib.indexByte l c ≠ -1 := by simpa using h1
     constructor
     ·intro h2; omega
     ·intro h2
      have := ih.2 (fun hh => h2 (.inr hh))
      omega
theorem zero_mem {t : ByteArray} {cs : List Int} (h : Txt t cs) : (0 : UInt8) ∈ t.data.toList ↔ (0 : Int) ∈ cs := by
 rw [<- mem_wr (by omega) (by omega) h.2, <- h.1]
 unfold bs
 rw [List.mem_map]
 constructor
 ·intro hm; exact ⟨0, hm, rfl⟩
 ·rintro ⟨b, hb, e⟩
  have : b = 0 := UInt8.toNat_inj.1 (by simpa using e)
  rw [<- this]; exact hb
theorem ok_iff {cs : List Int} (h : ∀ c ∈ cs, Is c) : Ok cs ↔ (0 : Int) ∉ cs := by
 constructor
 ·intro ho h0; exact (ho 0 h0).2 rfl
 ·intro h0 c hc; exact ⟨h c hc, fun e => h0 (by rw [<- e]; exact hc)⟩
theorem snd_yes {t : ByteArray} (hv : Lib.validD t.data.toList = true) (h0 : Lib.indexByte t.data.toList 0 < 0) : Snd t := by
 obtain ⟨cs, h⟩ := (valid_iff t).1 hv
 exact ⟨cs, h, (ok_iff h.2).2 fun hm => (idx_neg 0 _).1 h0 ((zero_mem h).2 hm)⟩
theorem snd_valid {t : ByteArray} (h : Snd t) : Lib.validD t.data.toList = true /\ Lib.indexByte t.data.toList 0 < 0 := by
 obtain ⟨cs, h, ho⟩ := h
 exact ⟨(valid_iff t).2 ⟨cs, h⟩, (idx_neg 0 _).2 fun hm => (ok_iff h.2).1 ho ((zero_mem h).1 hm)⟩
end Pr
theorem empty_any (t : ByteArray) (b : Bool) (hb : b = true ↔ t = ⟨#[]⟩) (w : World) : Calls Tryz.prog 113 #[.string t] w (Bo b w) := by
 by_cases h : t.size = 0
 ·obtain rfl : b = true := hb.2 (Pr.bs_inj (by
   have := Ru.bs_len t
   rw [h] at this
   rw [List.eq_nil_of_length_eq_zero this]; rfl))
  have e : t.toList.isEmpty = true := by
   rw [Lib.toList_data]
   have : t.data.toList.length = 0 := by simpa using h
   rw [List.eq_nil_of_length_eq_zero this]; rfl
  clear hb
  go_enter Tryz.func113, Tryz.ntmps113
  go_wp2_with fail
  go_ret
  exact ⟨rfl, Below.refl _ _⟩
 ·obtain rfl : b = false := by
   rw [Bool.eq_false_iff]
   intro hh
   exact h (by rw [hb.1 hh]; rfl)
  have e : t.toList.isEmpty = false := by
   rw [Lib.toList_data]
   have : t.data.toList.length = t.size := by simp
   cases hh : t.data.toList with
   | nil => rw [hh] at this; simp at this; omega
   | cons a r => rfl
  clear hb
  go_enter Tryz.func113, Tryz.ntmps113
  go_wp2_with fail
  go_ret
  exact ⟨rfl, Below.refl _ _⟩
theorem sound_any (t : ByteArray) (b : Bool) (hb : b = true ↔ Pr.Snd t) (hm : t.size <= 9223372036854775807) (w : World) (hT : UTab w.heap.size w) : Calls Tryz.prog 115 #[.string t] w (Bo b w) := by
 have C1 := Lib.hid (Tryz.utf8_ValidString t w hm hT.1)
 have C2 := Lib.hid (fun w => Tryz.strings_IndexByte t 0 w)
 clear hT
 cases hv : Lib.validD t.data.toList
 ·obtain rfl : b = false := by
   rw [Bool.eq_false_iff]
   intro hh
   have := (Pr.snd_valid (hb.1 hh)).1
   rw [hv] at this; cases this
  rw [hv] at C1
  clear hv hb
  go_enter Tryz.func115, Tryz.ntmps115
  go_wp2_with (go_at_call 176; ((with_reducible refine (C1.out).mono ?_); rintro e w1 ⟨rfl, b1⟩))
  go_ret
  exact ⟨rfl, b1⟩
 ·rw [hv] at C1
  by_cases hi : Lib.indexByte t.data.toList 0 < 0
  ·obtain rfl : b = true := hb.2 (Pr.snd_yes hv hi)
   have hd : decide (Lib.indexByte t.data.toList 0 < 0) = true := decide_eq_true hi
   have C2' : Hid (∀ w, Calls Tryz.prog 177 #[.string t, .int .u8 0] w fun e w' => e = .returned (.int .i64 (Lib.indexByte t.data.toList 0)) /\ w' = w) := Lib.hid C2.out
   clear hv hb C2 hi
   generalize Lib.indexByte t.data.toList 0 = x at *
   go_enter Tryz.func115, Tryz.ntmps115
   go_wp2_with (first | (go_at_call 176; ((with_reducible refine (C1.out).mono ?_); rintro e w1 ⟨rfl, b1⟩)) | (go_at_call 177; ((with_reducible refine (C2'.out _).mono ?_); rintro e w2 ⟨rfl, hw⟩; rw [hw])))
   go_ret
   exact ⟨rfl, b1⟩
  ·obtain rfl : b = false := by
    rw [Bool.eq_false_iff]
    intro hh
    exact hi (Pr.snd_valid (hb.1 hh)).2
   have hd : decide (Lib.indexByte t.data.toList 0 < 0) = false := decide_eq_false hi
   have C2' : Hid (∀ w, Calls Tryz.prog 177 #[.string t, .int .u8 0] w fun e w' => e = .returned (.int .i64 (Lib.indexByte t.data.toList 0)) /\ w' = w) := Lib.hid C2.out
   clear hv hb C2 hi
   generalize Lib.indexByte t.data.toList 0 = x at *
   go_enter Tryz.func115, Tryz.ntmps115
   go_wp2_with (first | (go_at_call 176; ((with_reducible refine (C1.out).mono ?_); rintro e w1 ⟨rfl, b1⟩)) | (go_at_call 177; ((with_reducible refine (C2'.out _).mono ?_); rintro e w2 ⟨rfl, hw⟩; rw [hw])))
   go_ret
   exact ⟨rfl, b1⟩
theorem size_empty {t : ByteArray} : (t.toList.isEmpty = true) ↔ t = ⟨#[]⟩ := by
 rw [Lib.toList_data]
 constructor
 ·intro h
  cases hh : t.data.toList with
  | nil => exact Pr.bs_inj (by unfold Ru.bs; rw [hh])
  | cons a r => rw [hh] at h; cases h
 ·rintro rfl; rfl
theorem named_any (t : ByteArray) (b : Bool) (hb : b = true ↔ (t ≠ ⟨#[]⟩ /\ Pr.Snd t)) (hm : t.size <= 9223372036854775807) (w : World) (hT : UTab w.heap.size w) : Calls Tryz.prog 114 #[.string t] w (Bo b w) := by
 by_cases h : t = ⟨#[]⟩
 ·obtain rfl : b = false := by
   rw [Bool.eq_false_iff]
   intro hh
   exact (hb.1 hh).1 h
  subst h
  clear hb hT
  go_enter Tryz.func114, Tryz.ntmps114
  go_wp2_with fail
  go_ret
  exact ⟨rfl, Below.refl _ _⟩
 ·have C := Lib.hid (sound_any t b (by rw [hb]; exact ⟨fun x => x.2, fun x => ⟨h, x⟩⟩) hm w hT)
  have e : t.toList.isEmpty = false := by
   rw [Bool.eq_false_iff]
   exact fun hh => h (size_empty.1 hh)
  clear hb hT h
  go_enter Tryz.func114, Tryz.ntmps114
  go_wp2_with (go_at_call 115; ((with_reducible refine (C.out).mono ?_); rintro e w1 ⟨rfl, b1⟩))
  go_ret
  exact ⟨rfl, b1⟩
theorem popens_any (t : ByteArray) (b : Bool) (hb : b = true ↔ (t = ⟨#[40]⟩ ∨ t = ⟨#[91]⟩ ∨ t = ⟨#[123]⟩)) (w : World) : Calls Tryz.prog 117 #[.string t] w (Bo b w) := by
 by_cases h1 : t = ⟨#[40]⟩
 ·obtain rfl : b = true := hb.2 (.inl h1)
  subst h1
  clear hb
  go_enter Tryz.func117, Tryz.ntmps117
  go_wp2_with fail
  go_ret
  exact ⟨rfl, Below.refl _ _⟩
 ·by_cases h2 : t = ⟨#[91]⟩
  ·obtain rfl : b = true := hb.2 (.inr (.inl h2))
   subst h2
   clear hb h1
   go_enter Tryz.func117, Tryz.ntmps117
   go_wp2_with fail
   go_ret
   exact ⟨rfl, Below.refl _ _⟩
  ·by_cases h3 : t = ⟨#[123]⟩
   ·obtain rfl : b = true := hb.2 (.inr (.inr h3))
    subst h3
    clear hb h1 h2
    go_enter Tryz.func117, Tryz.ntmps117
    go_wp2_with fail
    go_ret
    exact ⟨rfl, Below.refl _ _⟩
   ·obtain rfl : b = false := by
     rw [Bool.eq_false_iff]
     intro hh
     rcases hb.1 hh with h | h | h
     ·exact h1 h
     ·exact h2 h
     ·exact h3 h
    have e1 : (t.toList == [40]) = false := by rw [str_test]; exact decide_eq_false h1
    have e2 : (t.toList == [91]) = false := by rw [str_test]; exact decide_eq_false h2
    have e3 : (t.toList == [123]) = false := by rw [str_test]; exact decide_eq_false h3
    clear hb h1 h2 h3
    go_enter Tryz.func117, Tryz.ntmps117
    go_wp2_with fail
    go_ret
    exact ⟨rfl, Below.refl _ _⟩
theorem closes_any (t : ByteArray) (b : Bool) (hb : b = true ↔ (t = ⟨#[41]⟩ ∨ t = ⟨#[93]⟩ ∨ t = ⟨#[125]⟩)) (w : World) : Calls Tryz.prog 118 #[.string t] w (Bo b w) := by
 by_cases h1 : t = ⟨#[41]⟩
 ·obtain rfl : b = true := hb.2 (.inl h1)
  subst h1
  clear hb
  go_enter Tryz.func118, Tryz.ntmps118
  go_wp2_with fail
  go_ret
  exact ⟨rfl, Below.refl _ _⟩
 ·by_cases h2 : t = ⟨#[93]⟩
  ·obtain rfl : b = true := hb.2 (.inr (.inl h2))
   subst h2
   clear hb h1
   go_enter Tryz.func118, Tryz.ntmps118
   go_wp2_with fail
   go_ret
   exact ⟨rfl, Below.refl _ _⟩
  ·by_cases h3 : t = ⟨#[125]⟩
   ·obtain rfl : b = true := hb.2 (.inr (.inr h3))
    subst h3
    clear hb h1 h2
    go_enter Tryz.func118, Tryz.ntmps118
    go_wp2_with fail
    go_ret
    exact ⟨rfl, Below.refl _ _⟩
   ·obtain rfl : b = false := by
     rw [Bool.eq_false_iff]
     intro hh
     rcases hb.1 hh with h | h | h
     ·exact h1 h
     ·exact h2 h
     ·exact h3 h
    have e1 : (t.toList == [41]) = false := by rw [str_test]; exact decide_eq_false h1
    have e2 : (t.toList == [93]) = false := by rw [str_test]; exact decide_eq_false h2
    have e3 : (t.toList == [125]) = false := by rw [str_test]; exact decide_eq_false h3
    clear hb h1 h2 h3
    go_enter Tryz.func118, Tryz.ntmps118
    go_wp2_with fail
    go_ret
    exact ⟨rfl, Below.refl _ _⟩
end Go.Proofs.YtllmjggejbdpcaaGreatDoor
namespace Go.Proofs.YtllmjggejbdpcaaGreatDoor
open Go.RowKit Go.Maps
open Go.ChangeMaps (setBlock heap_setBlock_same heap_setBlock_other)
def rdV : Value -> Option (DataW Value × List MemPlace) := fun v => some (.held v, [])
theorem wpList_insert_own {P : Program} (w : World) {ops : Array Oper} {rest : List Oper} {o : Oper} {a : Act} {Q : Exit -> Act -> World -> Prop}
 (hg : o.guard = none) (m x v : Operand) (t : TypeId) (hop : o.op = Op.insert t m x v)
 (k e : TypeId) (K : Keyed P k) (ht : P.underlying t = some (.map k e)) (b n : Nat) (D : DataW Value)
 (hm : a.eval m = .map (some b)) (hown : w.ownsMap P k rdV b n D) (hn : n < maxLen) (key val : Value) (kl : Lit) (hx : a.eval x = key) (hv : a.eval v = val) (hkey : keyOf P k key = some kl)
 (hK : ∀ w', w'.ownsMap P k rdV b (n + 1) (D.put kl (.held val)) -> w.grownBy w' (some b) -> wpList P ops Q rest (a.put o.dst undef) w') :
 wpList P ops Q (o :: rest) a w := by
 refine wpList_plain hg fun K' hK' => ?_
 obtain ⟨w', hrun, r1, r2⟩ := hown.update K ht hn hkey (show rdV val = some (.held val, []) from rfl)
 unfold Oper.wp
 simp [execOp, hop, hm, hx, hv, hrun, Result.andThen]
 exact hK' _ _ (hK w' r1 r2)
abbrev fnV (n : Nat) : Value := .func (Fn.func n) #[] #[]
abbrev kdV (nb : Bool) (may : Nat) (ahead : ByteArray) (body : Value) (behind : ByteArray) : Value := .agg #[.bool nb, fnV may, .string ahead, body, .string behind]
abbrev fText : Value := fnV 105
abbrev fName : Value := fnV 106
abbrev fInner : Value := fnV 108
abbrev fNumber : Value := fnV 110
abbrev fBoth (c : Nat) : Value := .func (Fn.func 112) #[] #[.pointer (some ⟨c, 0, none⟩)]
def kval (c : Nat) : Nat -> Value
 | 1 => kdV false 113 ⟨#[10]⟩ fText ⟨#[]⟩
 | 2 => kdV false 114 ⟨#[]⟩ fName ⟨#[]⟩
 | 3 => kdV false 114 ⟨#[]⟩ fName ⟨#[40]⟩
 | 4 => kdV false 114 ⟨#[64]⟩ fName ⟨#[]⟩
 | 5 => kdV false 114 ⟨#[35]⟩ fName ⟨#[]⟩
 | 6 => kdV false 115 ⟨#[34]⟩ fInner ⟨#[34]⟩
 | 7 => kdV false 115 ⟨#[34]⟩ fInner ⟨#[]⟩
 | 8 => kdV true 113 ⟨#[]⟩ fNumber ⟨#[]⟩
 | 9 => kdV true 113 ⟨#[]⟩ fNumber ⟨#[37]⟩
 | 10 => kdV true 114 ⟨#[]⟩ (fBoth c) ⟨#[]⟩
 | 11 => kdV false 116 ⟨#[]⟩ fText ⟨#[]⟩
 | 12 => kdV false 117 ⟨#[]⟩ fText ⟨#[]⟩
 | 13 => kdV false 118 ⟨#[]⟩ fText ⟨#[]⟩
 | 14 => kdV false 113 ⟨#[58]⟩ fText ⟨#[]⟩
 | 15 => kdV false 113 ⟨#[59]⟩ fText ⟨#[]⟩
 | 16 => kdV false 113 ⟨#[44]⟩ fText ⟨#[]⟩
 | _ => .agg #[.bool false, .nilFunc, .string ⟨#[]⟩, .nilFunc, .string ⟨#[]⟩]
def kD (c : Nat) : Nat -> DataW Value
 | 0 => .map []
 | n + 1 => (kD c n).put (.int .i64 ((n + 1 : Nat) : Int)) (.held (kval c (n + 1)))
theorem kD_map (c : Nat) : ∀ n, IsMap (kD c n)
 | 0 => isMap_empty
 | n + 1 => (kD_map c n).put _ _
theorem kD_at (c : Nat) (j : Int) (z : DataW Value) : ∀ n, (kD c n).atKey (.int .i64 j) z = if 1 <= j /\ j <= (n : Int) then .held (kval c j.toNat) else z
 | 0 => by rw [if_neg (by omega)]; rfl
 | n + 1 => by
   unfold kD
   by_cases h : j = ((n + 1 : Nat) : Int)
   ·subst h
    rw [atKey_put_same (kD_map c n) (by show WideAt.IsKeyLit (.int _ _); trivial), if_pos (by omega), Int.toNat_natCast]
   ·rw [atKey_put_other (by intro e; injection e with _ e; exact h e), kD_at c j z n]
    by_cases h2 : 1 <= j /\ j <= (n : Int)
    ·rw [if_pos h2, if_pos (by omega)]
    ·rw [if_neg h2, if_neg (by omega)]
structure Kinds (w : World) (M c : Nat) : Prop where
 m : ∃ n, w.ownsMap Tryz.prog 3 rdV M n (kD c 16)
 n : w.heap[c]? = some (.cells #[fNumber] 92 (0, 0))
def KindsAt (w : World) (e : Ending) (w' : World) : Prop := ∃ M c, e = .returned (.map (some M)) /\ Kinds w' M c /\ M < w'.heap.size /\ c < w'.heap.size /\ Below w.heap.size w w'
def KAt (w : World) (n : Nat) (wx : World) : Prop :=
 wx.ownsMap Tryz.prog 3 rdV (w.heap.size + 1) n (kD w.heap.size n) /\ wx.heap[w.heap.size]? = some (.cells #[fNumber] 92 (0, 0)) /\ Below w.heap.size w wx /\ w.heap.size + 1 < wx.heap.size
theorem KAt.step {w wx w1 : World} {n : Nat} (h : KAt w n wx) (ho : w1.ownsMap Tryz.prog 3 rdV (w.heap.size + 1) (n + 1) (kD w.heap.size (n + 1))) (hg : wx.grownBy w1 (some (w.heap.size + 1))) : KAt w (n + 1) w1 := by
 obtain ⟨_, h2, h3, h4⟩ := h
 refine ⟨ho, (hg.block _ (by omega) (by simp)).trans h2, h3.grown hg (by omega) (fun k hk => by injection hk with hk; omega), Nat.lt_of_lt_of_le h4 hg.size⟩
theorem KAt.cell {w wx : World} {n : Nat} (h : KAt w n wx) : wx.cell? ⟨w.heap.size, 0, none⟩ = some fNumber := by simp [World.cell?, h.2.1]
theorem kinds_any (w : World) : Calls Tryz.prog 56 #[] w (KindsAt w) := by
 have hmm := @run_makeMap Tryz.prog
 have K := int_keyed (P := Tryz.prog) Tryz.underlying3
 have H0 : Hid (KAt w 0 ((w.alloc (.cells #[fNumber] 92)).alloc (.map #[] 0))) := Lib.hid (by
  refine ⟨?_, ?_, ((Below.refl _ _).alloc (Nat.le_refl _) _).alloc (by simp) _, by simp⟩
  ·have := World.ownsMap_made (w.alloc (.cells #[fNumber] 92)) Tryz.prog 3 rdV
   rw [show (w.alloc (.cells #[fNumber] 92)).heap.size = w.heap.size + 1 by simp] at this
   exact this
  ·exact (Below.heap_alloc _ _ _ (by simp)).trans (heap_alloc_new w _))
 go_enter Tryz.func56, Tryz.ntmps56
 go_wp2_with (refine wpList_insert_own _ rfl _ _ _ 97 rfl 3 110 K Tryz.underlying97 (w.heap.size + 1) _ _ rfl H0.out.1 (by unfold maxLen; omega) _ _ _ rfl rfl (keyOf_int_mk Tryz.underlying3 (by decide)) ?_; intro w1 ho hg; have H1 := Lib.hid (KAt.step H0.out ho hg); clear H0 ho hg; have hcl := H1.out.cell; have H0 := H1; clear H1)
 go_ret
 exact ⟨_, _, rfl, ⟨⟨_, H0.out.1⟩, H0.out.2.1⟩, H0.out.2.2.2, by have := H0.out.2.2.2; omega, H0.out.2.2.1⟩
end Go.Proofs.YtllmjggejbdpcaaGreatDoor
namespace Go.Proofs.YtllmjggejbdpcaaGreatDoor
open Go.RowKit
abbrev zTok : Value := .agg #[.int .i64 0, .string ⟨#[]⟩, .int .i64 0]
theorem Tryz.infoTok : (Tryz.prog.info? 70).map (fun i => (i.zero, i.size, i.bytes)) = some (some zTok, 3, 32) := by kernel_rfl
theorem three_cell (w : World) (B : Nat) (hB : B = w.heap.size) (a b c : Value) {E : TypeId} : ∀ (j : Nat) (x : Value), [a, b, c][j]? = some x -> (w.alloc (.cells #[a, b, c] E)).cell? ((⟨B, 0, none⟩ : Addr).add j) = some x := by
 intro j x hj
 subst hB
 match j, hj with
 | 0, hj => simp only [List.getElem?_cons_zero, Option.some.injEq] at hj; subst hj; simp [Addr.add, go_sem]
 | 1, hj => simp only [List.getElem?_cons_succ, List.getElem?_cons_zero, Option.some.injEq] at hj; subst hj; simp [Addr.add, go_sem]
 | 2, hj => simp only [List.getElem?_cons_succ, List.getElem?_cons_zero, Option.some.injEq] at hj; subst hj; simp [Addr.add, go_sem]
theorem three_ok (x : Int) (t : ByteArray) (n : Int) : ∀ u ∈ [Value.int .i64 x, .string t, .int .i64 n], u.oneCell' = true := by simp [Value.oneCell']
theorem own_le {w : World} {B C : Nat} {E : TypeId} {m n : Nat} {v : Value} {xs : List Value} (h : w.ownsRow B E m v n xs) (hc : C <= B) : w.ownsRow C E m v n xs := by
 refine ⟨h.1, ?_⟩
 rcases h.2 with h | ⟨x, cap, cur, a, b, c, d, e, f, g⟩
 ·exact .inl h
 ·exact .inr ⟨x, cap, cur, a, Nat.le_trans hc b, c, d, e, f, g⟩
theorem row_slice {w : World} {B : Nat} {E : TypeId} {m n : Nat} {v : Value} {xs : List Value} (h : w.ownsRow B E m v n xs) : ∃ (A : Option Addr) (cap : Nat), v = .slice A n cap /\ n <= cap := by
 rcases h.2 with ⟨rfl, h0⟩ | ⟨x, cap, cur, rfl, _, _, hc, _⟩
 ·exact ⟨none, 0, by rw [h0], by omega⟩
 ·exact ⟨_, cap, rfl, hc⟩
theorem cells_next {ts : List Tk.Tok} {t : Tk.Tok} {w : World} {B : Nat} {E : TypeId} {v : Value} (h : w.ownsRow B E 3 v (ts.length + 1) (Tk.cells ts ++ [.int .i64 t.1, .string t.2.1, .int .i64 t.2.2])) : w.ownsRow B E 3 v (ts ++ [t]).length (Tk.cells (ts ++ [t])) := by
 rw [Tk.cells_app, List.length_append]; exact h
def Toks (ts : List Tk.Tok) (w : World) (e : Ending) (w' : World) : Prop :=
 ∃ v, e = .returned (.tuple #[v, .int .i64 0]) /\ w'.ownsRow w.heap.size 70 3 v ts.length (Tk.cells ts) /\ Below w.heap.size w w'
namespace Tk
def tk (ts : List Tok) (j : Nat) : Tok := ts.getD j (0, ⟨#[]⟩, 0)
theorem tk_eq {ts : List Tok} {j : Nat} (h : j < ts.length) : tk ts j = ts[j] := by
 unfold tk; rw [List.getD_eq_getElem?_getD, List.getElem?_eq_getElem h]; rfl
theorem cells_at : ∀ (ts : List Tok) (j : Nat), j < ts.length -> (cells ts)[j * 3]? = some (.int .i64 (tk ts j).1) /\ (cells ts)[j * 3 + 1]? = some (.string (tk ts j).2.1) /\ (cells ts)[j * 3 + 2]? = some (.int .i64 (tk ts j).2.2)
 | [], j, h => by simp at h
 | t :: ts, 0, _ => ⟨rfl, rfl, rfl⟩
 | t :: ts, j + 1, h => by
   have ih := cells_at ts j (by simp at h; omega)
   have e : cells (t :: ts) = [.int .i64 t.1, .string t.2.1, .int .i64 t.2.2] ++ cells ts := rfl
   have e2 : tk (t :: ts) (j + 1) = tk ts j := rfl
   rw [e, e2]
   refine ⟨?_, ?_, ?_⟩
   ·rw [List.getElem?_append_right (by simp; omega)]
    rw [show (j + 1) * 3 - [Value.int .i64 t.1, .string t.2.1, .int .i64 t.2.2].length = j * 3 by simp; omega]; exact ih.1
   ·rw [List.getElem?_append_right (by simp; omega)]
    rw [show (j + 1) * 3 + 1 - [Value.int .i64 t.1, .string t.2.1, .int .i64 t.2.2].length = j * 3 + 1 by simp; omega]; exact ih.2.1
   ·rw [List.getElem?_append_right (by simp; omega)]
    rw [show (j + 1) * 3 + 2 - [Value.int .i64 t.1, .string t.2.1, .int .i64 t.2.2].length = j * 3 + 2 by simp; omega]; exact ih.2.2
end Tk
def Ts (w : World) (B : Nat) (A : Option Addr) (ts : List Tk.Tok) : Prop :=
 0 < ts.length -> ∃ b off, A = some ⟨b, off, none⟩ /\ b < B /\ ∀ j, j < ts.length -> w.cell? ⟨b, off + j * 3, none⟩ = some (.int .i64 (Tk.tk ts j).1) /\ w.cell? ⟨b, off + j * 3 + 1, none⟩ = some (.string (Tk.tk ts j).2.1) /\ w.cell? ⟨b, off + j * 3 + 2, none⟩ = some (.int .i64 (Tk.tk ts j).2.2)
section
variable {w w' : World} {B B' : Nat} {A : Option Addr} {ts : List Tk.Tok}
theorem Ts.keep (h : Ts w B A ts) (hk : ∀ p : Addr, p.block < B -> w'.cell? p = w.cell? p) : Ts w' B A ts := fun hl => by
 obtain ⟨b, off, e, hb, hc⟩ := h hl
 refine ⟨b, off, e, hb, fun j hj => ?_⟩
 obtain ⟨h0, h1, h2⟩ := hc j hj
 exact ⟨(hk ⟨b, _, none⟩ hb).trans h0, (hk ⟨b, _, none⟩ hb).trans h1, (hk ⟨b, _, none⟩ hb).trans h2⟩
theorem Ts.more (h : Ts w B A ts) (hB : B <= B') : Ts w B' A ts := fun hl => by
 obtain ⟨b, off, e, hb, hc⟩ := h hl
 exact ⟨b, off, e, by omega, hc⟩
theorem Ts.below (h : Ts w B A ts) (hb : Below B w w') : Ts w' B A ts := h.keep fun _ hp => hb.cell hp
theorem Ts.next (h : Ts w w.heap.size A ts) (hb : Below w.heap.size w w') : Ts w' w'.heap.size A ts := (h.below hb).more hb.size
theorem Ts.of_own {base : Nat} {e : TypeId} {c : Nat} (h : w.ownsRow base e 3 (.slice A ts.length c) ts.length (Tk.cells ts)) : Ts w w.heap.size A ts := fun hl => by
 obtain ⟨x, cap, hv, _, hlt⟩ := h.form hl
 have hA : A = some ⟨x, 0, none⟩ := by injection hv
 subst hA
 refine ⟨x, 0, rfl, hlt, fun j hj => ?_⟩
 obtain ⟨h0, h1, h2⟩ := Tk.cells_at ts j hj
 have c := h.cells (g := x) rfl
 have g0 := c _ _ h0
 have g1 := c _ _ h1
 have g2 := c _ _ h2
 rw [Addr.add_lit] at g0 g1 g2
 exact ⟨g0, g1, g2⟩
end
def Told3 (ts : List Tk.Tok) (w : World) (e : Ending) (w' : World) : Prop :=
 ∃ (A : Option Addr) (cap : Nat), e = .returned (.tuple #[.slice A ts.length cap, .int .i64 0]) /\ ts.length <= cap /\ Ts w' w'.heap.size A ts /\ Below w.heap.size w w'
theorem told3 {ts : List Tk.Tok} {w : World} {e : Ending} {w' : World} (h : Toks ts w e w') : Told3 ts w e w' := by
 obtain ⟨v, he, ho, hb⟩ := h
 obtain ⟨A, cap, rfl, hc⟩ := row_slice ho
 exact ⟨A, cap, he, hc, Ts.of_own ho, hb⟩
abbrev zeroTok : Obj := .cells #[.int .i64 0, .string ⟨#[]⟩, .int .i64 0] 70
def tokV (kind : Int) (t : ByteArray) (n : Int) : Value := .agg #[.int .i64 kind, .string t, .int .i64 n]
def I64 (n : Int) : Prop := -9223372036854775808 <= n /\ n <= 9223372036854775807
theorem tok3_cells {w : World} {k : Nat} {x0 x1 x2 : Value} {E : TypeId} (h : w.heap[k]? = some (.cells #[x0, x1, x2] E (0, 0))) :
 w.cell? ⟨k, 0, none⟩ = some x0 /\ w.cell? ⟨k, 1, none⟩ = some x1 /\ w.cell? ⟨k, 2, none⟩ = some x2 := by
 refine ⟨?_, ?_, ?_⟩ <;> simp [World.cell?, h]
theorem below_block {w w1 : World} {k : Nat} {o : Obj} (hb : Below w.heap.size w w1) (h : w.heap[k]? = some o) : w1.heap[k]? = some o := by
 have hlt : k < w.heap.size := by
  by_cases c : k < w.heap.size
  ·exact c
  ·rw [Array.getElem?_eq_none (by omega)] at h; cases h
 exact (hb.block k hlt).trans h
namespace Pr
open Tk
def Fair (us : List Tok) : Prop := us.length <= 100 /\ ∀ j, j < us.length -> (tk us j).2.1.size <= 100
def Wf (us : List Tok) : Prop := ∀ j, j < us.length -> I64 (tk us j).1 /\ I64 (tk us j).2.2
end Pr
namespace Tk
def pushes (ds : List Int) (r : Int × List Int × Nat) : Int × List Int × Nat := (r.1, ds ++ r.2.1, r.2.2)
end Tk
theorem tok_cells {w w2 : World} (h : Below (w.heap.size + 1) (w.alloc zeroTok) w2) :
 w2.cell? ⟨w.heap.size, 0, none⟩ = some (.int .i64 0) /\ w2.cell? ⟨w.heap.size, 1, none⟩ = some (.string ⟨#[]⟩) /\ w2.cell? ⟨w.heap.size, 2, none⟩ = some (.int .i64 0) /\
 w2.frozen? ⟨w.heap.size, 0, none⟩ = false /\ w2.frozen? ⟨w.heap.size, 1, none⟩ = false /\ w2.frozen? ⟨w.heap.size, 2, none⟩ = false := by
 have hc : ∀ j, w2.cell? ⟨w.heap.size, j, none⟩ = (w.alloc zeroTok).cell? ⟨w.heap.size, j, none⟩ := fun j => h.cell (p := ⟨w.heap.size, j, none⟩) (Nat.lt_succ_self _)
 have hf : ∀ j, w2.frozen? ⟨w.heap.size, j, none⟩ = (w.alloc zeroTok).frozen? ⟨w.heap.size, j, none⟩ := fun j => h.frozen (p := ⟨w.heap.size, j, none⟩) (Nat.lt_succ_self _)
 rw [hc, hc, hc, hf, hf, hf]
 unfold zeroTok
 refine ⟨?_, ?_, ?_, ?_, ?_, ?_⟩
 ·rw [World.cell?_alloc_mark]; rfl
 ·rw [World.cell?_alloc_mark]; rfl
 ·rw [World.cell?_alloc_mark]; rfl
 ·rw [World.frozen?_alloc_mark]; rfl
 ·rw [World.frozen?_alloc_mark]; rfl
 ·rw [World.frozen?_alloc_mark]; rfl
theorem tok_below {w w2 : World} (h : Below (w.heap.size + 1) (w.alloc zeroTok) w2) (x y z : Value) :
 Below w.heap.size w (((w2.setCell ⟨w.heap.size, 0, none⟩ x).setCell ⟨w.heap.size, 1, none⟩ y).setCell ⟨w.heap.size, 2, none⟩ z) :=
 (((((Below.refl _ w).alloc (Nat.le_refl _) _).trans (h.mono (Nat.le_succ _))).setCell (Nat.le_refl _) _).setCell (Nat.le_refl _) _).setCell (Nat.le_refl _) _
theorem PTab.alloc {w : World} (h : PTab w.heap.size w) (o : Obj) : PTab (w.alloc o).heap.size (w.alloc o) := h.next ((Below.refl _ _).alloc (Nat.le_refl _) o)
namespace Pr
end Pr
namespace Pr
open Ru Tk
def DelT (t : ByteArray) : Prop := ∃ c, Txt t [c] /\ Ok [c] /\ Del c
theorem dec_none {t : ByteArray} (h : t.size = 0) : Lib.decodeGo t = (65533, 0) := by
 show (if t.size = 0 then (65533, 0) else Utf8.decode t 0) = _
 rw [if_pos h]
theorem dec_some {t : ByteArray} {c : Int} {r : List Int} (h : Txt t (c :: r)) : ((Lib.decodeGo t).1 : Int) = c /\ (Lib.decodeGo t).2 = (Lib.encodeRuneZ c).length /\ t.size = (Lib.encodeRuneZ c).length + (wr r).length /\ 0 < t.size := by
 have hc := h.2 c (by simp)
 have hs := txt_size h
 rw [wr_cons, List.length_append] at hs
 have hp := enc_pos c
 have e : Lib.decodeGo t = Utf8.decode t 0 := by
  show (if t.size = 0 then (65533, 0) else Utf8.decode t 0) = _
  rw [if_neg (by omega)]
 obtain ⟨e1, e2, _⟩ := dec_at (t := t) (pos := 0) (r := wr r) hc (by rw [List.drop_zero, h.1, wr_cons])
 rw [e]
 exact ⟨e1, e2, hs, by omega⟩
theorem wr_pos {r : List Int} (h : r ≠ []) : 0 < (wr r).length := by
 have := wr_len_ge r
 have := List.length_pos_iff.2 h
 omega
inductive DelW (c : Int) : Prop
 | white (h : whiB c = true)
 | ff (h : whiB c = false) (h1 : c = 12)
 | cr (h : whiB c = false) (h1 : c = 13)
 | beg (h : whiB c = false) (h1 : c ≠ 12) (h2 : c ≠ 13) (h3 : begB c = true)
 | dig (h : whiB c = false) (h1 : c ≠ 12) (h2 : c ≠ 13) (h3 : begB c = false) (h4 : digB c = true)
 | rest (h : whiB c = false) (h1 : c ≠ 12) (h2 : c ≠ 13) (h3 : begB c = false) (h4 : digB c = false)
theorem delW (c : Int) : DelW c := by
 cases h : whiB c
 ·by_cases h1 : c = 12
  ·exact .ff h h1
  ·by_cases h2 : c = 13
   ·exact .cr h h2
   ·cases h3 : begB c
    ·cases h4 : digB c
     ·exact .rest h h1 h2 h3 h4
     ·exact .dig h h1 h2 h3 h4
    ·exact .beg h h1 h2 h3
 ·exact .white h
abbrev marks : ByteArray := ⟨#[40, 41, 91, 93, 123, 125, 58, 59, 44, 34, 39]⟩
theorem mem_marks {c : Int} (h0 : 0 <= c) (h1 : c < 128) : (0 <= Lib.indexByte marks.data.toList c.toNat.toUInt8) ↔ c = 40 ∨ c = 41 ∨ c = 91 ∨ c = 93 ∨ c = 123 ∨ c = 125 ∨ c = 58 ∨ c = 59 ∨ c = 44 ∨ c = 34 ∨ c = 39 := by
 have h := idx_neg c.toNat.toUInt8 marks.data.toList
 have hm : c.toNat.toUInt8 ∈ marks.data.toList ↔ c = 40 ∨ c = 41 ∨ c = 91 ∨ c = 93 ∨ c = 123 ∨ c = 125 ∨ c = 58 ∨ c = 59 ∨ c = 44 ∨ c = 34 ∨ c = 39 := by
  have e : ∀ n : UInt8, n.toNat < 128 -> (c.toNat.toUInt8 = n ↔ c = (n.toNat : Int)) := fun n hn => by
   have ht : c.toNat.toUInt8.toNat = c.toNat := by
    rw [show c.toNat.toUInt8.toNat = c.toNat % 256 from UInt8.toNat_ofNat']; omega
   constructor
   ·intro e
    have := congrArg UInt8.toNat e
    omega
   ·intro e
    exact UInt8.toNat_inj.1 (by omega)
  show c.toNat.toUInt8 ∈ [40, 41, 91, 93, 123, 125, 58, 59, 44, 34, 39] ↔ _
  simp only [List.mem_cons, List.not_mem_nil, or_false]
  rw [e 40 (by decide), e 41 (by decide), e 91 (by decide), e 93 (by decide), e 123 (by decide), e 125 (by decide), e 58 (by decide), e 59 (by decide), e 44 (by decide), e 34 (by decide), e 39 (by decide)]
  rfl
 rw [<- hm]
 constructor
 ·intro h2
  by_cases h3 : c.toNat.toUInt8 ∈ marks.data.toList
  ·exact h3
  ·have := h.2 h3; omega
 ·intro h2
  by_cases h3 : Lib.indexByte marks.data.toList c.toNat.toUInt8 < 0
  ·exact absurd h2 (h.1 h3)
  ·omega
theorem del_iff {c : Int} (h : whiB c = false) (h1 : c ≠ 12) (h2 : c ≠ 13) (h3 : begB c = false) (h4 : digB c = false) : Del c ↔ ¬ (c = 40 ∨ c = 41 ∨ c = 91 ∨ c = 93 ∨ c = 123 ∨ c = 125 ∨ c = 58 ∨ c = 59 ∨ c = 44 ∨ c = 34 ∨ c = 39) := by
 unfold whiB at h
 unfold digB at h4
 have h := of_decide_eq_false h
 have h4 := of_decide_eq_false h4
 unfold Del
 rw [h3]
 constructor
 ·intro hd; omega
 ·intro hd; exact ⟨rfl, by omega⟩
end Pr
theorem delimits_any (t : ByteArray) (b : Bool) (hb : b = true ↔ Pr.DelT t) (hm : t.size <= 9223372036854775807) (w : World) (hT : UTab w.heap.size w) : Calls Tryz.prog 116 #[.string t] w (Bo b w) := by
 have C1 := Lib.hid (Tryz.utf8_DecodeRuneInString t w hT.1)
 have HT := Lib.hid hT
 clear hT
 by_cases hs : Pr.Snd t
 ·obtain ⟨cs, hx, ho⟩ := hs
  have CS : Hid (∀ w1, Below w.heap.size w w1 -> Calls Tryz.prog 115 #[.string t] w1 (Bo true w1)) := Lib.hid fun w1 h1 => sound_any t true (by simp; exact ⟨cs, hx, ho⟩) hm w1 (HT.out.next h1)
  rcases cs with _ | ⟨c, _ | ⟨d, r⟩⟩
  ·have h0 : t.size = 0 := (Pr.txt_nil hx).2 rfl
   obtain rfl : b = false := by
    rw [Bool.eq_false_iff]
    intro hh
    obtain ⟨c, h1, _⟩ := hb.1 hh
    have := (Pr.dec_some h1).2.2.2
    omega
   rw [Pr.dec_none h0] at C1
   clear hb hx ho CS HT
   go_enter Tryz.func116, Tryz.ntmps116
   go_wp2_with (go_at_call 178; ((with_reducible refine (C1.out).mono ?_); rintro e w1 ⟨rfl, b1⟩))
   go_ret
   exact ⟨rfl, b1⟩
  ·obtain ⟨d1, d2, d3, d4⟩ := Pr.dec_some hx
   have hl : (Lib.decodeGo t).2 = t.size := by rw [d2, d3]; simp [Pr.wr_nil]
   rw [d1, hl] at C1
   have his := Pr.Is_lt (ho c (by simp)).1
   have hbd : b = true ↔ Pr.Del c := by
    rw [hb]
    constructor
    ·rintro ⟨c', h1, _, h3⟩
     have := Pr.Txt.one hx h1
     injection this with e _
     rw [e]; exact h3
    ·intro h; exact ⟨c, hx, ho, h⟩
   have K1 := Lib.hid (fun w => white_any c w)
   have K2 := Lib.hid (fun w => begins_any c w)
   have K3 := Lib.hid (fun w => isdigit_any c w)
   clear hb d1 d2 d3 hl hx
   have hlt : decide ((t.size : Int) < t.size) = false := decide_eq_false (by omega)
   have hz := Ru.eq_f (show ¬ (t.size : Int) = 0 by omega)
   rcases Pr.delW c with h | ⟨h, h1⟩ | ⟨h, h1⟩ | ⟨h, h1, h2, h3⟩ | ⟨h, h1, h2, h3, h4⟩ | ⟨h, h1, h2, h3, h4⟩
   ·obtain rfl : b = false := by
     rw [Bool.eq_false_iff]
     intro hh
     have hD := hbd.1 hh
     unfold Pr.Del at hD
     unfold Ru.whiB at h
     have := of_decide_eq_true h
     omega
    rw [h] at K1
    clear hbd h ho his
    go_enter Tryz.func116, Tryz.ntmps116
    go_wp2_with (first | (go_at_call 178; ((with_reducible refine (C1.out).mono ?_); rintro e w1 ⟨rfl, b1⟩)) | (go_at_call 115; ((with_reducible refine (CS.out _ b1).mono ?_); rintro e w2 ⟨rfl, b2⟩)) | (go_at_call 85; ((with_reducible refine (K1.out _).mono ?_); rintro e w3 ⟨rfl, rfl⟩)) | (go_at_call 156; ((with_reducible refine (K2.out _).mono ?_); rintro e w3 ⟨rfl, rfl⟩)) | (go_at_call 157; ((with_reducible refine (K3.out _).mono ?_); rintro e w3 ⟨rfl, rfl⟩)) | (go_at_call 179; ((with_reducible refine (K4.out _).mono ?_); rintro e w3 ⟨rfl, hw3⟩; rw [hw3])))
    go_ret
    exact ⟨rfl, below_next b1 b2⟩
   ·obtain rfl : b = false := by
     rw [Bool.eq_false_iff]
     intro hh
     have hD := hbd.1 hh
     unfold Pr.Del at hD
     omega
    rw [h] at K1
    have q := Ru.eq_t h1
    clear hbd h ho his h1
    go_enter Tryz.func116, Tryz.ntmps116
    go_wp2_with (first | (go_at_call 178; ((with_reducible refine (C1.out).mono ?_); rintro e w1 ⟨rfl, b1⟩)) | (go_at_call 115; ((with_reducible refine (CS.out _ b1).mono ?_); rintro e w2 ⟨rfl, b2⟩)) | (go_at_call 85; ((with_reducible refine (K1.out _).mono ?_); rintro e w3 ⟨rfl, rfl⟩)) | (go_at_call 156; ((with_reducible refine (K2.out _).mono ?_); rintro e w3 ⟨rfl, rfl⟩)) | (go_at_call 157; ((with_reducible refine (K3.out _).mono ?_); rintro e w3 ⟨rfl, rfl⟩)) | (go_at_call 179; ((with_reducible refine (K4.out _).mono ?_); rintro e w3 ⟨rfl, hw3⟩; rw [hw3])))
    go_ret
    exact ⟨rfl, below_next b1 b2⟩
   ·obtain rfl : b = false := by
     rw [Bool.eq_false_iff]
     intro hh
     have hD := hbd.1 hh
     unfold Pr.Del at hD
     omega
    rw [h] at K1
    have q0 := Ru.eq_f (show ¬ c = 12 by omega)
    have q := Ru.eq_t h1
    clear hbd h ho his h1
    go_enter Tryz.func116, Tryz.ntmps116
    go_wp2_with (first | (go_at_call 178; ((with_reducible refine (C1.out).mono ?_); rintro e w1 ⟨rfl, b1⟩)) | (go_at_call 115; ((with_reducible refine (CS.out _ b1).mono ?_); rintro e w2 ⟨rfl, b2⟩)) | (go_at_call 85; ((with_reducible refine (K1.out _).mono ?_); rintro e w3 ⟨rfl, rfl⟩)) | (go_at_call 156; ((with_reducible refine (K2.out _).mono ?_); rintro e w3 ⟨rfl, rfl⟩)) | (go_at_call 157; ((with_reducible refine (K3.out _).mono ?_); rintro e w3 ⟨rfl, rfl⟩)) | (go_at_call 179; ((with_reducible refine (K4.out _).mono ?_); rintro e w3 ⟨rfl, hw3⟩; rw [hw3])))
    go_ret
    exact ⟨rfl, below_next b1 b2⟩
   ·obtain rfl : b = false := by
     rw [Bool.eq_false_iff]
     intro hh
     have hD := hbd.1 hh
     unfold Pr.Del at hD
     rw [hD.1] at h3; cases h3
    rw [h] at K1
    rw [h3] at K2
    have q0 := Ru.eq_f h1
    have q := Ru.eq_f h2
    clear hbd h ho his h1 h2 h3
    go_enter Tryz.func116, Tryz.ntmps116
    go_wp2_with (first | (go_at_call 178; ((with_reducible refine (C1.out).mono ?_); rintro e w1 ⟨rfl, b1⟩)) | (go_at_call 115; ((with_reducible refine (CS.out _ b1).mono ?_); rintro e w2 ⟨rfl, b2⟩)) | (go_at_call 85; ((with_reducible refine (K1.out _).mono ?_); rintro e w3 ⟨rfl, rfl⟩)) | (go_at_call 156; ((with_reducible refine (K2.out _).mono ?_); rintro e w3 ⟨rfl, rfl⟩)) | (go_at_call 157; ((with_reducible refine (K3.out _).mono ?_); rintro e w3 ⟨rfl, rfl⟩)) | (go_at_call 179; ((with_reducible refine (K4.out _).mono ?_); rintro e w3 ⟨rfl, hw3⟩; rw [hw3])))
    go_ret
    exact ⟨rfl, below_next b1 b2⟩
   ·obtain rfl : b = false := by
     rw [Bool.eq_false_iff]
     intro hh
     have hD := hbd.1 hh
     unfold Pr.Del at hD
     unfold Ru.digB at h4
     have := of_decide_eq_true h4
     omega
    rw [h] at K1
    rw [h3] at K2
    rw [h4] at K3
    have q0 := Ru.eq_f h1
    have q := Ru.eq_f h2
    clear hbd h ho his h1 h2 h3 h4
    go_enter Tryz.func116, Tryz.ntmps116
    go_wp2_with (first | (go_at_call 178; ((with_reducible refine (C1.out).mono ?_); rintro e w1 ⟨rfl, b1⟩)) | (go_at_call 115; ((with_reducible refine (CS.out _ b1).mono ?_); rintro e w2 ⟨rfl, b2⟩)) | (go_at_call 85; ((with_reducible refine (K1.out _).mono ?_); rintro e w3 ⟨rfl, rfl⟩)) | (go_at_call 156; ((with_reducible refine (K2.out _).mono ?_); rintro e w3 ⟨rfl, rfl⟩)) | (go_at_call 157; ((with_reducible refine (K3.out _).mono ?_); rintro e w3 ⟨rfl, rfl⟩)) | (go_at_call 179; ((with_reducible refine (K4.out _).mono ?_); rintro e w3 ⟨rfl, hw3⟩; rw [hw3])))
    go_ret
    exact ⟨rfl, below_next b1 b2⟩
   ·have hlo : c < 128 := by
     by_cases h5 : c < 128
     ·exact h5
     ·exfalso
      have hi := (ho c (by simp)).1
      unfold Ru.Is at hi
      unfold Ru.begB at h3
      have := of_decide_eq_false h3
      omega
    have K4 := Lib.hid (fun w => Tryz.strings_ContainsRune_ascii Pr.marks c w his.1 hlo)
    have hmk := Pr.mem_marks his.1 hlo
    have hdl := Pr.del_iff h h1 h2 h3 h4
    rw [hdl, <- hmk] at hbd
    rw [h] at K1
    rw [h3] at K2
    rw [h4] at K3
    have q0 := Ru.eq_f h1
    have q := Ru.eq_f h2
    clear hdl hmk h ho his h1 h2 h3 h4 hlo
    generalize Lib.indexByte Pr.marks.data.toList c.toNat.toUInt8 = x at *
    by_cases hx : 0 <= x
    ·obtain rfl : b = false := by
      rw [Bool.eq_false_iff]
      intro hh
      exact hbd.1 hh hx
     rw [decide_eq_true hx] at K4
     clear hbd hx
     go_enter Tryz.func116, Tryz.ntmps116
     go_wp2_with (first | (go_at_call 178; ((with_reducible refine (C1.out).mono ?_); rintro e w1 ⟨rfl, b1⟩)) | (go_at_call 115; ((with_reducible refine (CS.out _ b1).mono ?_); rintro e w2 ⟨rfl, b2⟩)) | (go_at_call 85; ((with_reducible refine (K1.out _).mono ?_); rintro e w3 ⟨rfl, rfl⟩)) | (go_at_call 156; ((with_reducible refine (K2.out _).mono ?_); rintro e w3 ⟨rfl, rfl⟩)) | (go_at_call 157; ((with_reducible refine (K3.out _).mono ?_); rintro e w3 ⟨rfl, rfl⟩)) | (go_at_call 179; ((with_reducible refine (K4.out _).mono ?_); rintro e w3 ⟨rfl, hw3⟩; rw [hw3])))
     go_ret
     exact ⟨rfl, below_next b1 b2⟩
    ·obtain rfl : b = true := hbd.2 hx
     rw [decide_eq_false hx] at K4
     clear hbd hx
     go_enter Tryz.func116, Tryz.ntmps116
     go_wp2_with (first | (go_at_call 178; ((with_reducible refine (C1.out).mono ?_); rintro e w1 ⟨rfl, b1⟩)) | (go_at_call 115; ((with_reducible refine (CS.out _ b1).mono ?_); rintro e w2 ⟨rfl, b2⟩)) | (go_at_call 85; ((with_reducible refine (K1.out _).mono ?_); rintro e w3 ⟨rfl, rfl⟩)) | (go_at_call 156; ((with_reducible refine (K2.out _).mono ?_); rintro e w3 ⟨rfl, rfl⟩)) | (go_at_call 157; ((with_reducible refine (K3.out _).mono ?_); rintro e w3 ⟨rfl, rfl⟩)) | (go_at_call 179; ((with_reducible refine (K4.out _).mono ?_); rintro e w3 ⟨rfl, hw3⟩; rw [hw3])))
     go_ret
     exact ⟨rfl, below_next b1 b2⟩
  ·obtain ⟨d1, d2, d3, d4⟩ := Pr.dec_some hx
   have hp := Pr.wr_pos (show d :: r ≠ [] by simp)
   obtain rfl : b = false := by
    rw [Bool.eq_false_iff]
    intro hh
    obtain ⟨c', h1, _⟩ := hb.1 hh
    have := Pr.Txt.one hx h1
    simp at this
   rw [d1] at C1
   have hlt : decide ((Lib.decodeGo t).2 < t.size) = true := decide_eq_true (by omega)
   have hz := Ru.eq_f (show ¬ ((Lib.decodeGo t).2 : Int) = 0 by have := Pr.enc_pos c; omega)
   clear hb hx ho CS HT d1 d2 d3 d4 hp
   generalize (Lib.decodeGo t).2 = sz at *
   go_enter Tryz.func116, Tryz.ntmps116
   go_wp2_with (go_at_call 178; ((with_reducible refine (C1.out).mono ?_); rintro e w1 ⟨rfl, b1⟩))
   go_ret
   exact ⟨rfl, b1⟩
 ·obtain rfl : b = false := by
   rw [Bool.eq_false_iff]
   intro hh
   obtain ⟨c, h1, h2, _⟩ := hb.1 hh
   exact hs ⟨_, h1, h2⟩
  have CS : Hid (∀ w1, Below w.heap.size w w1 -> Calls Tryz.prog 115 #[.string t] w1 (Bo false w1)) := Lib.hid fun w1 h1 => sound_any t false (by simp; exact hs) hm w1 (HT.out.next h1)
  generalize ((Lib.decodeGo t).1 : Int) = c at *
  generalize (Lib.decodeGo t).2 = sz at *
  clear hb hs HT
  by_cases hz : (sz : Int) = 0
  ·have hz' := Ru.eq_t hz
   clear hz
   go_enter Tryz.func116, Tryz.ntmps116
   go_wp2_with (go_at_call 178; ((with_reducible refine (C1.out).mono ?_); rintro e w1 ⟨rfl, b1⟩))
   go_ret
   exact ⟨rfl, b1⟩
  ·have hz' := Ru.eq_f hz
   clear hz
   by_cases hl : sz < t.size
   ·have hl' : decide (sz < t.size) = true := decide_eq_true hl
    clear hl
    go_enter Tryz.func116, Tryz.ntmps116
    go_wp2_with (go_at_call 178; ((with_reducible refine (C1.out).mono ?_); rintro e w1 ⟨rfl, b1⟩))
    go_ret
    exact ⟨rfl, b1⟩
   ·have hl' : decide (sz < t.size) = false := decide_eq_false hl
    clear hl
    go_enter Tryz.func116, Tryz.ntmps116
    go_wp2_with (first | (go_at_call 178; ((with_reducible refine (C1.out).mono ?_); rintro e w1 ⟨rfl, b1⟩)) | (go_at_call 115; ((with_reducible refine (CS.out _ b1).mono ?_); rintro e w2 ⟨rfl, b2⟩)))
    go_ret
    exact ⟨rfl, below_next b1 b2⟩
end Go.Proofs.YtllmjggejbdpcaaGreatDoor
