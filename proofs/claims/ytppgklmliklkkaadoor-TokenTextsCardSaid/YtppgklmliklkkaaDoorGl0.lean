/-
  Plain: a text's characters, and one text in quotes. No run of the program in this text.
-/
import Derived.Test.YtppgklmliklkkaaDoorGk0
import Derived.Test.YtppgklmliklkkaaDoorGo
import Derived.Lib.MapLaws
import Derived.Lib.TrimUEq
namespace Go.Proofs.YtppgklmliklkkaaDoor
namespace Tk
open Ru
/-- a character that TokenTexts lets in -/
def TxC (c : Int) : Prop := c ≠ 34 ∧ c ≠ 39 ∧ c ≠ 92 ∧ c ≠ 0 ∧ c ≠ 10 ∧ c ≠ 12 ∧ c ≠ 13 ∧ c ≠ 65533
/-- the text so far -/
def Sofar (s : ByteArray) (pos : Nat) (ds : List Int) : Prop := (bs s).take pos = wr ds ∧ pos ≤ s.size ∧ ∀ c ∈ ds, Is c ∧ TxC c
theorem sofar_next {s : ByteArray} {pos : Nat} {ds : List Int} (h : Sofar s pos ds) (hp : pos < s.size) (hc : TxC ((Utf8.decode s pos).1 : Int)) :
    Sofar s (pos + (Utf8.decode s pos).2) (ds ++ [((Utf8.decode s pos).1 : Int)]) ∧ 1 ≤ (Utf8.decode s pos).2 := by
  obtain ⟨h1, h2, h3⟩ := h
  have hl : s.data.toList.length = s.size := by simp
  have hne : s.data.toList.drop pos ≠ [] := fun e => by
    have := congrArg List.length e
    rw [List.length_drop] at this
    simp at this
    omega
  have hd := Lib.decodeL_drop s pos
  have hN := Lib.decode_N s pos
  have hv : ¬ ((Utf8.decode s pos).1 = 65533 ∧ (Utf8.decode s pos).2 = 1) := fun e => hc.2.2.2.2.2.2.2 (by rw [e.1]; rfl)
  have he := Lib.encode_decode _ hne (by rw [hd]; exact hv)
  rw [hd] at he
  have hi := decode_is (s.data.toList.length - pos) (s.data.toList.getD pos 0).toNat (s.data.toList.getD (pos + 1) 0).toNat (s.data.toList.getD (pos + 2) 0).toNat (s.data.toList.getD (pos + 3) 0).toNat (by omega) (UInt8.toNat_lt _) (UInt8.toNat_lt _) (UInt8.toNat_lt _) (UInt8.toNat_lt _) (by rw [← hN]; exact hv)
  rw [← hN] at hi
  have hw := wd_le ((s.data.toList.length - pos : Nat) : Int) (s.data.toList.getD pos 0).toNat (s.data.toList.getD (pos + 1) 0).toNat (s.data.toList.getD (pos + 2) 0).toNat (s.data.toList.getD (pos + 3) 0).toNat (by omega)
  have his : Is ((Utf8.decode s pos).1 : Int) := by rw [hi.1]; exact ch_is (by omega)
  have h4 : pos + (Utf8.decode s pos).2 ≤ s.size ∧ 1 ≤ (Utf8.decode s pos).2 := by omega
  refine ⟨⟨?_, h4.1, fun c hm => ?_⟩, h4.2⟩
  · rw [List.take_add, h1, wr_snoc]
    congr 1
    unfold bs
    rw [← List.map_drop, ← List.map_take, ← he]
    unfold Lib.encodeRune
    rw [List.map_map]
    have hb := Lib.encodeRuneZ_byte ((Utf8.decode s pos).1 : Int)
    have : ∀ x ∈ Lib.encodeRuneZ ((Utf8.decode s pos).1 : Int), ((fun b : UInt8 => (b.toNat : Int)) ∘ fun x : Int => x.toNat.toUInt8) x = x := fun x hx => by
      have := hb x hx
      simp only [Function.comp]
      rw [show x.toNat.toUInt8.toNat = x.toNat % 256 from UInt8.toNat_ofNat']
      omega
    rw [List.map_congr_left this]
    simp
  · rcases List.mem_append.1 hm with hm | hm
    · exact h3 c hm
    · rw [List.mem_singleton] at hm
      subst hm
      exact ⟨his, hc⟩
/-- a text in quotes -/
theorem qq_app : ∀ (ds pre : List Int) (e : Int), (∀ c ∈ ds, c ≠ e ∧ c ≠ 10 ∧ c ≠ 92) → qq (pre ++ (ds ++ [e])) e pre.length = (6, ds, pre.length + ds.length + 1)
  | [], pre, e, _ => by
    have ha : g (pre ++ ([] ++ [e])) pre.length = e := by
      rw [← at_in (by simp)]; exact at_app pre e []
    rw [qq_end (fun h => h.2 ha)]
    simp
  | c :: ds, pre, e, h => by
    obtain ⟨h1, h2, h3⟩ := h c (by simp)
    have ha : g (pre ++ (c :: ds ++ [e])) pre.length = c := by
      rw [← at_in (by simp)]; exact at_app pre c (ds ++ [e])
    have hat : at' (pre ++ (c :: ds ++ [e])) pre.length = c := at_app pre c (ds ++ [e])
    have he : esc (pre ++ (c :: ds ++ [e])) pre.length = false := by
      unfold esc; rw [hat]; apply decide_eq_false; exact fun hh => h3 hh.1
    have ih := qq_app ds (pre ++ [c]) e (fun d hd => h d (by simp [hd]))
    have el : (pre ++ [c]).length = pre.length + 1 := by simp
    have eq : pre ++ (c :: ds ++ [e]) = (pre ++ [c]) ++ (ds ++ [e]) := by simp
    rw [el, ← eq] at ih
    rw [qq_step ⟨by simp, by rw [ha]; exact h1⟩, ha, if_neg h2, he, if_neg (by decide), if_neg h3, ih]
    unfold push
    simp; omega
theorem scan_quoted {ds : List Int} {q : Int} (hq : q = 34 ∨ q = 39) (h : ∀ c ∈ ds, TxC c) : scan (q :: (ds ++ [q])) 0 = [(6, str ds, 0)] := by
  have hqq := qq_app ds [q] q (fun c hc => by have := h c hc; unfold TxC at this; omega)
  have e : [q] ++ (ds ++ [q]) = q :: (ds ++ [q]) := rfl
  rw [e] at hqq
  have hg : g (q :: (ds ++ [q])) 0 = q := rfl
  have ha : at' (q :: (ds ++ [q])) 0 = q := at_in (by simp)
  have hgap := no_gap ha (by omega)
  have hx : nxt (q :: (ds ++ [q])) 0 = (6, str ds, 0, ds.length + 2) := by
    unfold nxt
    rw [hg, if_pos hq]
    rw [show qq (q :: (ds ++ [q])) q (0 + 1) = (6, ds, [q].length + ds.length + 1) from hqq]
    simp; omega
  rw [scan_tok (by simp) hgap.1 hgap.2, hx]
  rw [scan_end (by simp)]
  rfl
theorem rd_quoted {ds : List Int} {q : Int} (hq : q = 34 ∨ q = 39) (h : ∀ c ∈ ds, Is c ∧ TxC c) : rd (q :: (wr ds ++ [q])) = q :: (ds ++ [q]) := by
  have ha : Asc q := by unfold Asc; omega
  rw [rd_one ha, rd_before ha (by omega), rd_nil]
  have he : rd (wr ds) = ds := rd_enc ds (fun c hc => by have := h c hc; unfold TxC at this; exact ⟨this.1, by omega, by omega, by omega⟩)
  rw [he]
end Tk
end Go.Proofs.YtppgklmliklkkaaDoor
