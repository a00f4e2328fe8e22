/-
  The walk of print's write.
-/
import Derived.Test.YtgcmjkimiakibaaGreatDoorGam
import Derived.Test.YtgcmjkimiakibaaGreatDoorGao
namespace Go.Proofs.YtgcmjkimiakibaaGreatDoor
open Go.RowKit

/-- a block that no builder turns -/
theorem Bw.block {b k : Nat} {w w1 : World} {cs : Array Value} {E : TypeId} (h : Bw b w w1) (hk : w.heap[k]? = some (.cells cs E (0, 0))) (hb : k ≠ b) (hE : E ≠ 5) : w1.heap[k]? = some (.cells cs E (0, 0)) :=
  h.2 k _ hk (by simpa using hb) (fun c fz e => by injection e with _ e _; exact hE e)
theorem five_cells {w : World} {k : Nat} {x0 x1 x2 x3 x4 : Value} {E : TypeId} (h : w.heap[k]? = some (.cells #[x0, x1, x2, x3, x4] E (0, 0))) :
    w.cell? ⟨k, 2, none⟩ = some x2 ∧ w.cell? ⟨k, 3, none⟩ = some x3 ∧ w.cell? ⟨k, 4, none⟩ = some x4 := by
  refine ⟨?_, ?_, ?_⟩ <;> simp [World.cell?, h]
theorem tok3_cells {w : World} {k : Nat} {x0 x1 x2 : Value} {E : TypeId} (h : w.heap[k]? = some (.cells #[x0, x1, x2] E (0, 0))) :
    w.cell? ⟨k, 0, none⟩ = some x0 ∧ w.cell? ⟨k, 1, none⟩ = some x1 ∧ w.cell? ⟨k, 2, none⟩ = some x2 := by
  refine ⟨?_, ?_, ?_⟩ <;> simp [World.cell?, h]
theorem below_block {w w1 : World} {k : Nat} {o : Obj} (hb : Below w.heap.size w w1) (h : w.heap[k]? = some o) : w1.heap[k]? = some o := by
  have hlt : k < w.heap.size := by
    by_cases c : k < w.heap.size
    · exact c
    · rw [Array.getElem?_eq_none (by omega)] at h; cases h
  exact (hb.block k hlt).trans h
/-- what write leaves -/
def Wrote (b : Nat) (l : List Int) (w : World) (e : Ending) (w' : World) : Prop := e = .returned (.tuple #[]) ∧ Used w' b l ∧ Bw b w w'

set_option maxHeartbeats 1000000 in
set_option maxRecDepth 100000 in
theorem write_text (nb : Bool) (may : Nat) (a z x : ByteArray) (kd n : Int) (t : ByteArray) (b : Nat) (l : List Int) (w : World) (h : Bu w b l) (hT : PTab b w) (ha : a.size ≤ 10) (hz : z.size ≤ 10) (hx : x.size ≤ 1000000) (hl : l.length ≤ 1000000)
    (HB : ∀ w1, PTab w1.heap.size w1 → Calls Tryz.prog 46 #[tokV kd t n] w1 (Sg x w1)) :
    Calls Tryz.prog 23 #[.agg #[.bool nb, fnV may, .string a, .func (Fn.func 46) #[] #[], .string z], .pointer (some ⟨b, 0, none⟩), tokV kd t n] w (Wrote b (l ++ (Ru.bs a ++ (Ru.bs x ++ Ru.bs z))) w) := by
  have hbw := h.lt
  obtain ⟨W0, hW⟩ : ∃ W0, W0 = (w.alloc (.cells #[.bool nb, fnV may, .string a, .func (Fn.func 46) #[] #[], .string z] 60)).alloc (.cells #[.int .i64 kd, .string t, .int .i64 n] 32) := ⟨_, rfl⟩
  have kk : W0.heap[w.heap.size]? = some (.cells #[.bool nb, fnV may, .string a, .func (Fn.func 46) #[] #[], .string z] 60 (0, 0)) := by rw [hW]; exact (Below.heap_alloc _ _ _ (by simp)).trans (heap_alloc_new w _)
  have kt : W0.heap[w.heap.size + 1]? = some (.cells #[.int .i64 kd, .string t, .int .i64 n] 32 (0, 0)) := by
    have := heap_alloc_new (w.alloc (.cells #[.bool nb, fnV may, .string a, .func (Fn.func 46) #[] #[], .string z] 60)) (.cells #[.int .i64 kd, .string t, .int .i64 n] 32)
    rw [show (w.alloc (.cells #[.bool nb, fnV may, .string a, .func (Fn.func 46) #[] #[], .string z] 60)).heap.size = w.heap.size + 1 by simp] at this
    rw [hW]; exact this
  have HW0 : Hid (Bw b w W0) := Lib.hid (by rw [hW]; exact Bw.of_below (two_below w _ _) (Nat.le_of_lt hbw))
  have HT := Lib.hid hT
  have hB0 : Bu W0 b l := by rw [hW]; exact h.below (two_below w _ _)
  have C1 := Lib.hid (writeString_any b l a W0 hB0 (by omega) (by omega))
  have HKK := Lib.hid kk
  have HKT := Lib.hid kt
  have hka := Ru.bs_len a
  have hkx := Ru.bs_len x
  obtain ⟨k2, k3, k4⟩ := five_cells kk
  obtain ⟨t0, t1, t2⟩ := tok3_cells kt
  clear hT h kk kt hB0
  unfold tokV at HB ⊢
  have HB' := Lib.hid HB
  clear HB
  go_enter Tryz.func23, Tryz.ntmps23
  go_upto_region 1 with fail
  rw [← hW]
  clear hW
  go_wp2_with (first | (go_at_call 22; ((with_reducible refine (C1.out).mono ?_); rintro e w1 ⟨rfl, U1, b1⟩; have HK1 := Lib.hid (b1.block HKK.out (by omega) (by decide)); have HT1 := Lib.hid (b1.block HKT.out (by omega) (by decide)); obtain ⟨p2, p3, p4⟩ := five_cells HK1.out; obtain ⟨q0, q1, q2⟩ := tok3_cells HT1.out; have C2 := Lib.hid ((fun HB => HB w1 ((HT.out.below (HW0.out.1.trans b1.1)).more (Nat.le_of_lt U1.bu.lt))) HB'.out); clear C1 HKK HKT)) | (go_at_call 46; ((with_reducible refine (C2.out).mono ?_); rintro e w2 ⟨rfl, b2⟩; have C3 := Lib.hid (writeString_any b _ x w2 (U1.bu.below b2) (by rw [List.length_append]; omega) (by omega)); have HK2 := Lib.hid (below_block b2 HK1.out); clear C2)) | (go_at_call 22; ((with_reducible refine (C3.out).mono ?_); rintro e w3 ⟨rfl, U3, b3⟩; have HK3 := Lib.hid (b3.block HK2.out (by omega) (by decide)); obtain ⟨r2, r3, r4⟩ := five_cells HK3.out; have C4 := Lib.hid (writeString_any b _ z w3 U3.bu (by rw [List.length_append, List.length_append]; omega) (by omega)); clear C3)) | (go_at_call 22; ((with_reducible refine (C4.out).mono ?_); rintro e w4 ⟨rfl, U4, b4⟩)))
  go_end0
  refine ⟨rfl, ?_, HW0.out.trans (b1.trans ((Bw.of_below b2 (Nat.le_of_lt U1.bu.lt)).trans (b3.trans b4)))⟩
  rw [List.append_assoc, List.append_assoc] at U4
  exact U4
set_option maxHeartbeats 1000000 in
set_option maxRecDepth 100000 in
theorem write_name (nb : Bool) (may : Nat) (a z x : ByteArray) (kd n : Int) (t : ByteArray) (b : Nat) (l : List Int) (w : World) (h : Bu w b l) (hT : PTab b w) (ha : a.size ≤ 10) (hz : z.size ≤ 10) (hx : x.size ≤ 1000000) (hl : l.length ≤ 1000000)
    (HB : ∀ w1, PTab w1.heap.size w1 → Calls Tryz.prog 47 #[tokV kd t n] w1 (Sg x w1)) :
    Calls Tryz.prog 23 #[.agg #[.bool nb, fnV may, .string a, .func (Fn.func 47) #[] #[], .string z], .pointer (some ⟨b, 0, none⟩), tokV kd t n] w (Wrote b (l ++ (Ru.bs a ++ (Ru.bs x ++ Ru.bs z))) w) := by
  have hbw := h.lt
  obtain ⟨W0, hW⟩ : ∃ W0, W0 = (w.alloc (.cells #[.bool nb, fnV may, .string a, .func (Fn.func 47) #[] #[], .string z] 60)).alloc (.cells #[.int .i64 kd, .string t, .int .i64 n] 32) := ⟨_, rfl⟩
  have kk : W0.heap[w.heap.size]? = some (.cells #[.bool nb, fnV may, .string a, .func (Fn.func 47) #[] #[], .string z] 60 (0, 0)) := by rw [hW]; exact (Below.heap_alloc _ _ _ (by simp)).trans (heap_alloc_new w _)
  have kt : W0.heap[w.heap.size + 1]? = some (.cells #[.int .i64 kd, .string t, .int .i64 n] 32 (0, 0)) := by
    have := heap_alloc_new (w.alloc (.cells #[.bool nb, fnV may, .string a, .func (Fn.func 47) #[] #[], .string z] 60)) (.cells #[.int .i64 kd, .string t, .int .i64 n] 32)
    rw [show (w.alloc (.cells #[.bool nb, fnV may, .string a, .func (Fn.func 47) #[] #[], .string z] 60)).heap.size = w.heap.size + 1 by simp] at this
    rw [hW]; exact this
  have HW0 : Hid (Bw b w W0) := Lib.hid (by rw [hW]; exact Bw.of_below (two_below w _ _) (Nat.le_of_lt hbw))
  have HT := Lib.hid hT
  have hB0 : Bu W0 b l := by rw [hW]; exact h.below (two_below w _ _)
  have C1 := Lib.hid (writeString_any b l a W0 hB0 (by omega) (by omega))
  have HKK := Lib.hid kk
  have HKT := Lib.hid kt
  have hka := Ru.bs_len a
  have hkx := Ru.bs_len x
  obtain ⟨k2, k3, k4⟩ := five_cells kk
  obtain ⟨t0, t1, t2⟩ := tok3_cells kt
  clear hT h kk kt hB0
  unfold tokV at HB ⊢
  have HB' := Lib.hid HB
  clear HB
  go_enter Tryz.func23, Tryz.ntmps23
  go_upto_region 1 with fail
  rw [← hW]
  clear hW
  go_wp2_with (first | (go_at_call 22; ((with_reducible refine (C1.out).mono ?_); rintro e w1 ⟨rfl, U1, b1⟩; have HK1 := Lib.hid (b1.block HKK.out (by omega) (by decide)); have HT1 := Lib.hid (b1.block HKT.out (by omega) (by decide)); obtain ⟨p2, p3, p4⟩ := five_cells HK1.out; obtain ⟨q0, q1, q2⟩ := tok3_cells HT1.out; have C2 := Lib.hid ((fun HB => HB w1 ((HT.out.below (HW0.out.1.trans b1.1)).more (Nat.le_of_lt U1.bu.lt))) HB'.out); clear C1 HKK HKT)) | (go_at_call 47; ((with_reducible refine (C2.out).mono ?_); rintro e w2 ⟨rfl, b2⟩; have C3 := Lib.hid (writeString_any b _ x w2 (U1.bu.below b2) (by rw [List.length_append]; omega) (by omega)); have HK2 := Lib.hid (below_block b2 HK1.out); clear C2)) | (go_at_call 22; ((with_reducible refine (C3.out).mono ?_); rintro e w3 ⟨rfl, U3, b3⟩; have HK3 := Lib.hid (b3.block HK2.out (by omega) (by decide)); obtain ⟨r2, r3, r4⟩ := five_cells HK3.out; have C4 := Lib.hid (writeString_any b _ z w3 U3.bu (by rw [List.length_append, List.length_append]; omega) (by omega)); clear C3)) | (go_at_call 22; ((with_reducible refine (C4.out).mono ?_); rintro e w4 ⟨rfl, U4, b4⟩)))
  go_end0
  refine ⟨rfl, ?_, HW0.out.trans (b1.trans ((Bw.of_below b2 (Nat.le_of_lt U1.bu.lt)).trans (b3.trans b4)))⟩
  rw [List.append_assoc, List.append_assoc] at U4
  exact U4
set_option maxHeartbeats 1000000 in
set_option maxRecDepth 100000 in
theorem write_inner (nb : Bool) (may : Nat) (a z x : ByteArray) (kd n : Int) (t : ByteArray) (b : Nat) (l : List Int) (w : World) (h : Bu w b l) (hT : PTab b w) (ha : a.size ≤ 10) (hz : z.size ≤ 10) (hx : x.size ≤ 1000000) (hl : l.length ≤ 1000000)
    (HB : ∀ w1, PTab w1.heap.size w1 → Calls Tryz.prog 49 #[tokV kd t n] w1 (Sg x w1)) :
    Calls Tryz.prog 23 #[.agg #[.bool nb, fnV may, .string a, .func (Fn.func 49) #[] #[], .string z], .pointer (some ⟨b, 0, none⟩), tokV kd t n] w (Wrote b (l ++ (Ru.bs a ++ (Ru.bs x ++ Ru.bs z))) w) := by
  have hbw := h.lt
  obtain ⟨W0, hW⟩ : ∃ W0, W0 = (w.alloc (.cells #[.bool nb, fnV may, .string a, .func (Fn.func 49) #[] #[], .string z] 60)).alloc (.cells #[.int .i64 kd, .string t, .int .i64 n] 32) := ⟨_, rfl⟩
  have kk : W0.heap[w.heap.size]? = some (.cells #[.bool nb, fnV may, .string a, .func (Fn.func 49) #[] #[], .string z] 60 (0, 0)) := by rw [hW]; exact (Below.heap_alloc _ _ _ (by simp)).trans (heap_alloc_new w _)
  have kt : W0.heap[w.heap.size + 1]? = some (.cells #[.int .i64 kd, .string t, .int .i64 n] 32 (0, 0)) := by
    have := heap_alloc_new (w.alloc (.cells #[.bool nb, fnV may, .string a, .func (Fn.func 49) #[] #[], .string z] 60)) (.cells #[.int .i64 kd, .string t, .int .i64 n] 32)
    rw [show (w.alloc (.cells #[.bool nb, fnV may, .string a, .func (Fn.func 49) #[] #[], .string z] 60)).heap.size = w.heap.size + 1 by simp] at this
    rw [hW]; exact this
  have HW0 : Hid (Bw b w W0) := Lib.hid (by rw [hW]; exact Bw.of_below (two_below w _ _) (Nat.le_of_lt hbw))
  have HT := Lib.hid hT
  have hB0 : Bu W0 b l := by rw [hW]; exact h.below (two_below w _ _)
  have C1 := Lib.hid (writeString_any b l a W0 hB0 (by omega) (by omega))
  have HKK := Lib.hid kk
  have HKT := Lib.hid kt
  have hka := Ru.bs_len a
  have hkx := Ru.bs_len x
  obtain ⟨k2, k3, k4⟩ := five_cells kk
  obtain ⟨t0, t1, t2⟩ := tok3_cells kt
  clear hT h kk kt hB0
  unfold tokV at HB ⊢
  have HB' := Lib.hid HB
  clear HB
  go_enter Tryz.func23, Tryz.ntmps23
  go_upto_region 1 with fail
  rw [← hW]
  clear hW
  go_wp2_with (first | (go_at_call 22; ((with_reducible refine (C1.out).mono ?_); rintro e w1 ⟨rfl, U1, b1⟩; have HK1 := Lib.hid (b1.block HKK.out (by omega) (by decide)); have HT1 := Lib.hid (b1.block HKT.out (by omega) (by decide)); obtain ⟨p2, p3, p4⟩ := five_cells HK1.out; obtain ⟨q0, q1, q2⟩ := tok3_cells HT1.out; have C2 := Lib.hid ((fun HB => HB w1 ((HT.out.below (HW0.out.1.trans b1.1)).more (Nat.le_of_lt U1.bu.lt))) HB'.out); clear C1 HKK HKT)) | (go_at_call 49; ((with_reducible refine (C2.out).mono ?_); rintro e w2 ⟨rfl, b2⟩; have C3 := Lib.hid (writeString_any b _ x w2 (U1.bu.below b2) (by rw [List.length_append]; omega) (by omega)); have HK2 := Lib.hid (below_block b2 HK1.out); clear C2)) | (go_at_call 22; ((with_reducible refine (C3.out).mono ?_); rintro e w3 ⟨rfl, U3, b3⟩; have HK3 := Lib.hid (b3.block HK2.out (by omega) (by decide)); obtain ⟨r2, r3, r4⟩ := five_cells HK3.out; have C4 := Lib.hid (writeString_any b _ z w3 U3.bu (by rw [List.length_append, List.length_append]; omega) (by omega)); clear C3)) | (go_at_call 22; ((with_reducible refine (C4.out).mono ?_); rintro e w4 ⟨rfl, U4, b4⟩)))
  go_end0
  refine ⟨rfl, ?_, HW0.out.trans (b1.trans ((Bw.of_below b2 (Nat.le_of_lt U1.bu.lt)).trans (b3.trans b4)))⟩
  rw [List.append_assoc, List.append_assoc] at U4
  exact U4
set_option maxHeartbeats 1000000 in
set_option maxRecDepth 100000 in
theorem write_number (nb : Bool) (may : Nat) (a z x : ByteArray) (kd n : Int) (t : ByteArray) (b : Nat) (l : List Int) (w : World) (h : Bu w b l) (hT : PTab b w) (ha : a.size ≤ 10) (hz : z.size ≤ 10) (hx : x.size ≤ 1000000) (hl : l.length ≤ 1000000)
    (HB : ∀ w1, PTab w1.heap.size w1 → Calls Tryz.prog 51 #[tokV kd t n] w1 (Sg x w1)) :
    Calls Tryz.prog 23 #[.agg #[.bool nb, fnV may, .string a, .func (Fn.func 51) #[] #[], .string z], .pointer (some ⟨b, 0, none⟩), tokV kd t n] w (Wrote b (l ++ (Ru.bs a ++ (Ru.bs x ++ Ru.bs z))) w) := by
  have hbw := h.lt
  obtain ⟨W0, hW⟩ : ∃ W0, W0 = (w.alloc (.cells #[.bool nb, fnV may, .string a, .func (Fn.func 51) #[] #[], .string z] 60)).alloc (.cells #[.int .i64 kd, .string t, .int .i64 n] 32) := ⟨_, rfl⟩
  have kk : W0.heap[w.heap.size]? = some (.cells #[.bool nb, fnV may, .string a, .func (Fn.func 51) #[] #[], .string z] 60 (0, 0)) := by rw [hW]; exact (Below.heap_alloc _ _ _ (by simp)).trans (heap_alloc_new w _)
  have kt : W0.heap[w.heap.size + 1]? = some (.cells #[.int .i64 kd, .string t, .int .i64 n] 32 (0, 0)) := by
    have := heap_alloc_new (w.alloc (.cells #[.bool nb, fnV may, .string a, .func (Fn.func 51) #[] #[], .string z] 60)) (.cells #[.int .i64 kd, .string t, .int .i64 n] 32)
    rw [show (w.alloc (.cells #[.bool nb, fnV may, .string a, .func (Fn.func 51) #[] #[], .string z] 60)).heap.size = w.heap.size + 1 by simp] at this
    rw [hW]; exact this
  have HW0 : Hid (Bw b w W0) := Lib.hid (by rw [hW]; exact Bw.of_below (two_below w _ _) (Nat.le_of_lt hbw))
  have HT := Lib.hid hT
  have hB0 : Bu W0 b l := by rw [hW]; exact h.below (two_below w _ _)
  have C1 := Lib.hid (writeString_any b l a W0 hB0 (by omega) (by omega))
  have HKK := Lib.hid kk
  have HKT := Lib.hid kt
  have hka := Ru.bs_len a
  have hkx := Ru.bs_len x
  obtain ⟨k2, k3, k4⟩ := five_cells kk
  obtain ⟨t0, t1, t2⟩ := tok3_cells kt
  clear hT h kk kt hB0
  unfold tokV at HB ⊢
  have HB' := Lib.hid HB
  clear HB
  go_enter Tryz.func23, Tryz.ntmps23
  go_upto_region 1 with fail
  rw [← hW]
  clear hW
  go_wp2_with (first | (go_at_call 22; ((with_reducible refine (C1.out).mono ?_); rintro e w1 ⟨rfl, U1, b1⟩; have HK1 := Lib.hid (b1.block HKK.out (by omega) (by decide)); have HT1 := Lib.hid (b1.block HKT.out (by omega) (by decide)); obtain ⟨p2, p3, p4⟩ := five_cells HK1.out; obtain ⟨q0, q1, q2⟩ := tok3_cells HT1.out; have C2 := Lib.hid ((fun HB => HB w1 ((HT.out.below (HW0.out.1.trans b1.1)).more (Nat.le_of_lt U1.bu.lt))) HB'.out); clear C1 HKK HKT)) | (go_at_call 51; ((with_reducible refine (C2.out).mono ?_); rintro e w2 ⟨rfl, b2⟩; have C3 := Lib.hid (writeString_any b _ x w2 (U1.bu.below b2) (by rw [List.length_append]; omega) (by omega)); have HK2 := Lib.hid (below_block b2 HK1.out); clear C2)) | (go_at_call 22; ((with_reducible refine (C3.out).mono ?_); rintro e w3 ⟨rfl, U3, b3⟩; have HK3 := Lib.hid (b3.block HK2.out (by omega) (by decide)); obtain ⟨r2, r3, r4⟩ := five_cells HK3.out; have C4 := Lib.hid (writeString_any b _ z w3 U3.bu (by rw [List.length_append, List.length_append]; omega) (by omega)); clear C3)) | (go_at_call 22; ((with_reducible refine (C4.out).mono ?_); rintro e w4 ⟨rfl, U4, b4⟩)))
  go_end0
  refine ⟨rfl, ?_, HW0.out.trans (b1.trans ((Bw.of_below b2 (Nat.le_of_lt U1.bu.lt)).trans (b3.trans b4)))⟩
  rw [List.append_assoc, List.append_assoc] at U4
  exact U4
set_option maxHeartbeats 1000000 in
set_option maxRecDepth 100000 in
theorem write_both (nb : Bool) (may : Nat) (a z x : ByteArray) (c : Nat) (kd n : Int) (t : ByteArray) (b : Nat) (l : List Int) (w : World) (h : Bu w b l) (hcb : c ≠ b) (hc : w.heap[c]? = some (.cells #[fNumber] 34 (0, 0))) (hT : PTab b w) (ha : a.size ≤ 10) (hz : z.size ≤ 10) (hx : x.size ≤ 1000000) (hl : l.length ≤ 1000000)
    (HB : ∀ w1, PTab w1.heap.size w1 → w1.heap[c]? = some (.cells #[fNumber] 34 (0, 0)) → Calls Tryz.prog 53 #[tokV kd t n, .pointer (some ⟨c, 0, none⟩)] w1 (Sg x w1)) :
    Calls Tryz.prog 23 #[.agg #[.bool nb, fnV may, .string a, .func (Fn.func 53) #[] #[.pointer (some ⟨c, 0, none⟩)], .string z], .pointer (some ⟨b, 0, none⟩), tokV kd t n] w (Wrote b (l ++ (Ru.bs a ++ (Ru.bs x ++ Ru.bs z))) w) := by
  have hbw := h.lt
  obtain ⟨W0, hW⟩ : ∃ W0, W0 = (w.alloc (.cells #[.bool nb, fnV may, .string a, .func (Fn.func 53) #[] #[.pointer (some ⟨c, 0, none⟩)], .string z] 60)).alloc (.cells #[.int .i64 kd, .string t, .int .i64 n] 32) := ⟨_, rfl⟩
  have kk : W0.heap[w.heap.size]? = some (.cells #[.bool nb, fnV may, .string a, .func (Fn.func 53) #[] #[.pointer (some ⟨c, 0, none⟩)], .string z] 60 (0, 0)) := by rw [hW]; exact (Below.heap_alloc _ _ _ (by simp)).trans (heap_alloc_new w _)
  have kt : W0.heap[w.heap.size + 1]? = some (.cells #[.int .i64 kd, .string t, .int .i64 n] 32 (0, 0)) := by
    have := heap_alloc_new (w.alloc (.cells #[.bool nb, fnV may, .string a, .func (Fn.func 53) #[] #[.pointer (some ⟨c, 0, none⟩)], .string z] 60)) (.cells #[.int .i64 kd, .string t, .int .i64 n] 32)
    rw [show (w.alloc (.cells #[.bool nb, fnV may, .string a, .func (Fn.func 53) #[] #[.pointer (some ⟨c, 0, none⟩)], .string z] 60)).heap.size = w.heap.size + 1 by simp] at this
    rw [hW]; exact this
  have kc : W0.heap[c]? = some (.cells #[fNumber] 34 (0, 0)) := by rw [hW]; exact below_block (two_below w _ _) hc
  have HW0 : Hid (Bw b w W0) := Lib.hid (by rw [hW]; exact Bw.of_below (two_below w _ _) (Nat.le_of_lt hbw))
  have HT := Lib.hid hT
  have hB0 : Bu W0 b l := by rw [hW]; exact h.below (two_below w _ _)
  have C1 := Lib.hid (writeString_any b l a W0 hB0 (by omega) (by omega))
  have HKK := Lib.hid kk
  have HKT := Lib.hid kt
  have hka := Ru.bs_len a
  have hkx := Ru.bs_len x
  obtain ⟨k2, k3, k4⟩ := five_cells kk
  obtain ⟨t0, t1, t2⟩ := tok3_cells kt
  clear hT h kk kt hB0
  have HC := Lib.hid kc
  clear kc hc
  unfold tokV at HB ⊢
  have HB' := Lib.hid HB
  clear HB
  go_enter Tryz.func23, Tryz.ntmps23
  go_upto_region 1 with fail
  rw [← hW]
  clear hW
  go_wp2_with (first | (go_at_call 22; ((with_reducible refine (C1.out).mono ?_); rintro e w1 ⟨rfl, U1, b1⟩; have HK1 := Lib.hid (b1.block HKK.out (by omega) (by decide)); have HT1 := Lib.hid (b1.block HKT.out (by omega) (by decide)); obtain ⟨p2, p3, p4⟩ := five_cells HK1.out; obtain ⟨q0, q1, q2⟩ := tok3_cells HT1.out; have C2 := Lib.hid ((fun HB => HB w1 ((HT.out.below (HW0.out.1.trans b1.1)).more (Nat.le_of_lt U1.bu.lt)) (b1.block HC.out hcb (by decide))) HB'.out); clear C1 HKK HKT)) | (go_at_call 53; ((with_reducible refine (C2.out).mono ?_); rintro e w2 ⟨rfl, b2⟩; have C3 := Lib.hid (writeString_any b _ x w2 (U1.bu.below b2) (by rw [List.length_append]; omega) (by omega)); have HK2 := Lib.hid (below_block b2 HK1.out); clear C2)) | (go_at_call 22; ((with_reducible refine (C3.out).mono ?_); rintro e w3 ⟨rfl, U3, b3⟩; have HK3 := Lib.hid (b3.block HK2.out (by omega) (by decide)); obtain ⟨r2, r3, r4⟩ := five_cells HK3.out; have C4 := Lib.hid (writeString_any b _ z w3 U3.bu (by rw [List.length_append, List.length_append]; omega) (by omega)); clear C3)) | (go_at_call 22; ((with_reducible refine (C4.out).mono ?_); rintro e w4 ⟨rfl, U4, b4⟩)))
  go_end0
  refine ⟨rfl, ?_, HW0.out.trans (b1.trans ((Bw.of_below b2 (Nat.le_of_lt U1.bu.lt)).trans (b3.trans b4)))⟩
  rw [List.append_assoc, List.append_assoc] at U4
  exact U4
end Go.Proofs.YtgcmjkimiakibaaGreatDoor

/-
  Each kind's fits and write; a look into the map of kinds.
-/
namespace Go.Proofs.YtgcmjkimiakibaaGreatDoor
open Go.RowKit Go.Maps

/-- the entry of a kind -/
def kindAt (c : Nat) (kd : Int) : Value := if 1 ≤ kd ∧ kd ≤ 16 then kval c kd.toNat else kval c 0
/-- a number that an int holds -/
def I64 (n : Int) : Prop := -9223372036854775808 ≤ n ∧ n ≤ 9223372036854775807
theorem zero_kind (w : World) : (zeroValue 60).run Tryz.prog w = .ok (kval 0 0) w := by kernel_rfl
theorem kinds_look {w : World} {M c : Nat} (h : Kinds w M c) (kd : Int) (hk : I64 kd) : (Instr.lookup 47 (.map (some M)) (.int .i64 kd) false).run Tryz.prog w = .ok (kindAt c kd) w := by
  obtain ⟨n, hm⟩ := h.m
  have K := int_keyed (P := Tryz.prog) Tryz.underlying3
  have hw : (Lit.int .i64 kd).wf = true := WalkArith.wf_i64 hk
  obtain ⟨v, ps, hrun, hv⟩ := hm.lookup K Tryz.underlying47 (zero_kind w) (zd := .held (kval 0 0)) (zp := []) rfl (keyOf_int_mk Tryz.underlying3 hw)
  rw [hrun]
  have e : v = kindAt c kd := by
    rw [kD_at] at hv
    unfold rdV at hv
    simp only [Option.some.injEq, Prod.mk.injEq] at hv
    have hv := hv.1
    unfold kindAt
    by_cases h : 1 ≤ kd ∧ kd ≤ 16
    · rw [if_pos (by omega)] at hv
      rw [if_pos h]
      injection hv
    · rw [if_neg (by omega)] at hv
      rw [if_neg h]
      injection hv
  rw [e]
theorem Kinds.below {w w1 : World} {M c B : Nat} (h : Kinds w M c) (hb : Below B w w1) (hM : M < B) (hc : c < B) : Kinds w1 M c := by
  obtain ⟨⟨n, es, clock, hm, r⟩, hn⟩ := h
  exact ⟨⟨n, es, clock, (hb.block M hM).trans hm, r⟩, (hb.block c hc).trans hn⟩

namespace Pr
open Ru Tk
/-- a token in memory that may be -/
def OneU (u : Tok) : Prop := ∃ p : PT, u = toTok p ∧ One p
theorem oneU_iff (k n : Int) (t : ByteArray) : OneU (k, t, n) ↔ ∃ cs, Txt t cs ∧ Ok cs ∧ Kd k cs n := by
  constructor
  · rintro ⟨⟨k', l, n'⟩, e, ho, hk⟩
    unfold toTok at e
    simp only [Prod.mk.injEq] at e
    obtain ⟨rfl, rfl, rfl⟩ := e
    exact ⟨l, txt_str fun c hc => (ho c hc).1, ho, hk⟩
  · rintro ⟨cs, hx, ho, hk⟩
    exact ⟨(k, cs, n), by unfold toTok; simp only; rw [hx.str], ho, hk⟩
theorem txt_empty {t : ByteArray} : Txt t [] ↔ t = ⟨#[]⟩ := by
  constructor
  · intro h; exact h.str
  · rintro rfl; exact ⟨rfl, fun c hc => by cases hc⟩
theorem txt_asc {t : ByteArray} {c : Int} (h0 : 0 ≤ c) (h1 : c ≤ 127) : Txt t [c] ↔ bs t = [c] := by
  have e : wr [c] = [c] := wr_asc' (fun d hd => by rw [List.mem_singleton] at hd; omega)
  constructor
  · intro h; rw [h.1, e]
  · intro h; exact ⟨by rw [h, e], fun d hd => by rw [List.mem_singleton] at hd; subst hd; unfold Is; omega⟩
theorem ok_nil : Ok [] := fun c hc => by cases hc
theorem ok_one {c : Int} (h0 : 0 < c) (h1 : c < 128) : Ok [c] := fun d hd => by rw [List.mem_singleton] at hd; subst hd; exact ⟨by unfold Is; omega, by omega⟩
theorem bs_byte {t : ByteArray} (c : UInt8) : bs t = [(c.toNat : Int)] ↔ t = ⟨#[c]⟩ := by
  constructor
  · intro h; exact bs_inj (by rw [h]; rfl)
  · rintro rfl; rfl
/-- P of the text, and its number -/
theorem one_text {k n : Int} {t : ByteArray} {Q : List Int → Prop} {N : Prop} (hk : ∀ cs, Kd k cs n ↔ Q cs ∧ N) : OneU (k, t, n) ↔ (∃ cs, Txt t cs ∧ Ok cs ∧ Q cs) ∧ N := by
  rw [oneU_iff]
  constructor
  · rintro ⟨cs, h1, h2, h3⟩
    have := (hk cs).1 h3
    exact ⟨⟨cs, h1, h2, this.1⟩, this.2⟩
  · rintro ⟨⟨cs, h1, h2, h3⟩, h4⟩
    exact ⟨cs, h1, h2, (hk cs).2 ⟨h3, h4⟩⟩
theorem q_nil {t : ByteArray} : (∃ cs, Txt t cs ∧ Ok cs ∧ cs = []) ↔ t = ⟨#[]⟩ := by
  constructor
  · rintro ⟨cs, h1, _, rfl⟩; exact txt_empty.1 h1
  · intro h; exact ⟨[], txt_empty.2 h, ok_nil, rfl⟩
theorem q_some {t : ByteArray} : (∃ cs, Txt t cs ∧ Ok cs ∧ cs ≠ []) ↔ (t ≠ ⟨#[]⟩ ∧ Snd t) := by
  constructor
  · rintro ⟨cs, h1, h2, h3⟩
    exact ⟨fun e => h3 (Txt.one h1 (txt_empty.2 e)), cs, h1, h2⟩
  · rintro ⟨h, cs, h1, h2⟩
    exact ⟨cs, h1, h2, fun e => h (txt_empty.1 (by rw [← e]; exact h1))⟩
theorem q_any {t : ByteArray} : (∃ cs, Txt t cs ∧ Ok cs ∧ True) ↔ Snd t := by
  constructor
  · rintro ⟨cs, h1, h2, _⟩; exact ⟨cs, h1, h2⟩
  · rintro ⟨cs, h1, h2⟩; exact ⟨cs, h1, h2, trivial⟩
theorem q_del {t : ByteArray} : (∃ cs, Txt t cs ∧ Ok cs ∧ ∃ c, cs = [c] ∧ Del c) ↔ DelT t := by
  constructor
  · rintro ⟨cs, h1, h2, c, rfl, h3⟩; exact ⟨c, h1, h2, h3⟩
  · rintro ⟨c, h1, h2, h3⟩; exact ⟨[c], h1, h2, c, rfl, h3⟩
theorem q_three {t : ByteArray} (a b c : UInt8) (ha : 0 < a.toNat ∧ a.toNat < 128) (hb : 0 < b.toNat ∧ b.toNat < 128) (hc : 0 < c.toNat ∧ c.toNat < 128) :
    (∃ cs, Txt t cs ∧ Ok cs ∧ (cs = [(a.toNat : Int)] ∨ cs = [(b.toNat : Int)] ∨ cs = [(c.toNat : Int)])) ↔ (t = ⟨#[a]⟩ ∨ t = ⟨#[b]⟩ ∨ t = ⟨#[c]⟩) := by
  have key : ∀ x : UInt8, 0 < x.toNat ∧ x.toNat < 128 → (Txt t [(x.toNat : Int)] ↔ t = ⟨#[x]⟩) := fun x hx => by rw [txt_asc (by omega) (by omega), bs_byte]
  constructor
  · rintro ⟨cs, h1, _, rfl | rfl | rfl⟩
    · exact .inl ((key a ha).1 h1)
    · exact .inr (.inl ((key b hb).1 h1))
    · exact .inr (.inr ((key c hc).1 h1))
  · rintro (h | h | h)
    · exact ⟨_, (key a ha).2 h, ok_one (by omega) (by omega), .inl rfl⟩
    · exact ⟨_, (key b hb).2 h, ok_one (by omega) (by omega), .inr (.inl rfl)⟩
    · exact ⟨_, (key c hc).2 h, ok_one (by omega) (by omega), .inr (.inr rfl)⟩
theorem q_opens {t : ByteArray} : (∃ cs, Txt t cs ∧ Ok cs ∧ (cs = [40] ∨ cs = [91] ∨ cs = [123])) ↔ (t = ⟨#[40]⟩ ∨ t = ⟨#[91]⟩ ∨ t = ⟨#[123]⟩) := q_three 40 91 123 (by decide) (by decide) (by decide)
theorem q_closes {t : ByteArray} : (∃ cs, Txt t cs ∧ Ok cs ∧ (cs = [41] ∨ cs = [93] ∨ cs = [125])) ↔ (t = ⟨#[41]⟩ ∨ t = ⟨#[93]⟩ ∨ t = ⟨#[125]⟩) := q_three 41 93 125 (by decide) (by decide) (by decide)
theorem kd_none {k n : Int} {l : List Int} (h : ¬ (1 ≤ k ∧ k ≤ 16)) : ¬ Kd k l n := by
  unfold Kd
  rintro (⟨h1, _⟩ | ⟨h1, _⟩ | ⟨h1, _⟩ | ⟨h1, _⟩ | ⟨h1, _⟩ | ⟨h1, _⟩ | ⟨h1, _⟩ | ⟨h1, _⟩ | ⟨h1, _⟩) <;> omega
end Pr
theorem bool_of {b : Bool} {P Q : Prop} [Decidable Q] (hb : b = true ↔ P ∧ Q) (q : Bool) (hq : q = true ↔ P) : (q && decide Q) = b := by
  rw [Bool.eq_iff_iff, Bool.and_eq_true, decide_eq_true_iff, hb, hq]
open Classical in
/-- whether a token fits its kind -/
theorem fits_at (c : Nat) (kd n : Int) (t : ByteArray) (b : Bool) (hb : b = true ↔ Pr.OneU (kd, t, n)) (hm : t.size ≤ 9223372036854775807) (w : World) (hT : UTab w.heap.size w) :
    Calls Tryz.prog 29 #[kindAt c kd, tokV kd t n] w (Bo b w) := by
  rcases (show ¬ (1 ≤ kd ∧ kd ≤ 16) ∨ kd = 1 ∨ kd = 2 ∨ kd = 3 ∨ kd = 4 ∨ kd = 5 ∨ kd = 6 ∨ kd = 7 ∨ kd = 8 ∨ kd = 9 ∨ kd = 10 ∨ kd = 11 ∨ kd = 12 ∨ kd = 13 ∨ kd = 14 ∨ kd = 15 ∨ kd = 16 by omega) with h | rfl | rfl | rfl | rfl | rfl | rfl | rfl | rfl | rfl | rfl | rfl | rfl | rfl | rfl | rfl | rfl
  · obtain rfl : b = false := by
      rw [Bool.eq_false_iff]
      intro hh
      obtain ⟨cs, _, _, h3⟩ := (Pr.oneU_iff kd n t).1 (hb.1 hh)
      exact Pr.kd_none h h3
    unfold kindAt
    rw [if_neg h]
    exact nil_fits ⟨#[]⟩ ⟨#[]⟩ kd n t w
  · rw [Pr.one_text (Q := fun cs => cs = []) (N := n = 0) (fun cs => by simp [Pr.Kd]), Pr.q_nil] at hb
    have hq : decide (t = ⟨#[]⟩) = true ↔ t = ⟨#[]⟩ := decide_eq_true_iff
    rw [← bool_of hb _ hq]
    exact fits_empty0 _ _ _ _ _ 1 n t _ hq w
  · rw [Pr.one_text (Q := fun cs => cs ≠ []) (N := n = 0) (fun cs => by simp [Pr.Kd]), Pr.q_some] at hb
    have hq : decide ((t ≠ ⟨#[]⟩ ∧ Pr.Snd t)) = true ↔ (t ≠ ⟨#[]⟩ ∧ Pr.Snd t) := decide_eq_true_iff
    rw [← bool_of hb _ hq]
    exact fits_named0 _ _ _ _ _ 2 n t _ hq hm w hT
  · rw [Pr.one_text (Q := fun cs => cs ≠ []) (N := n = 0) (fun cs => by simp [Pr.Kd]), Pr.q_some] at hb
    have hq : decide ((t ≠ ⟨#[]⟩ ∧ Pr.Snd t)) = true ↔ (t ≠ ⟨#[]⟩ ∧ Pr.Snd t) := decide_eq_true_iff
    rw [← bool_of hb _ hq]
    exact fits_named0 _ _ _ _ _ 3 n t _ hq hm w hT
  · rw [Pr.one_text (Q := fun cs => cs ≠ []) (N := n = 0) (fun cs => by simp [Pr.Kd]), Pr.q_some] at hb
    have hq : decide ((t ≠ ⟨#[]⟩ ∧ Pr.Snd t)) = true ↔ (t ≠ ⟨#[]⟩ ∧ Pr.Snd t) := decide_eq_true_iff
    rw [← bool_of hb _ hq]
    exact fits_named0 _ _ _ _ _ 4 n t _ hq hm w hT
  · rw [Pr.one_text (Q := fun cs => cs ≠ []) (N := n = 0) (fun cs => by simp [Pr.Kd]), Pr.q_some] at hb
    have hq : decide ((t ≠ ⟨#[]⟩ ∧ Pr.Snd t)) = true ↔ (t ≠ ⟨#[]⟩ ∧ Pr.Snd t) := decide_eq_true_iff
    rw [← bool_of hb _ hq]
    exact fits_named0 _ _ _ _ _ 5 n t _ hq hm w hT
  · rw [Pr.one_text (Q := fun cs => True) (N := n = 0) (fun cs => by simp [Pr.Kd]), Pr.q_any] at hb
    have hq : decide (Pr.Snd t) = true ↔ Pr.Snd t := decide_eq_true_iff
    rw [← bool_of hb _ hq]
    exact fits_sound0 _ _ _ _ _ 6 n t _ hq hm w hT
  · rw [Pr.one_text (Q := fun cs => True) (N := n = 0) (fun cs => by simp [Pr.Kd]), Pr.q_any] at hb
    have hq : decide (Pr.Snd t) = true ↔ Pr.Snd t := decide_eq_true_iff
    rw [← bool_of hb _ hq]
    exact fits_sound0 _ _ _ _ _ 7 n t _ hq hm w hT
  · rw [Pr.one_text (Q := fun cs => cs = []) (N := n = Fx.stop n) (fun cs => by simp [Pr.Kd]), Pr.q_nil] at hb
    have hq : decide (t = ⟨#[]⟩) = true ↔ t = ⟨#[]⟩ := decide_eq_true_iff
    rw [← bool_of hb _ hq]
    exact fits_empty1 _ _ _ _ _ 8 n t _ hq w
  · rw [Pr.one_text (Q := fun cs => cs = []) (N := n = Fx.stop n) (fun cs => by simp [Pr.Kd]), Pr.q_nil] at hb
    have hq : decide (t = ⟨#[]⟩) = true ↔ t = ⟨#[]⟩ := decide_eq_true_iff
    rw [← bool_of hb _ hq]
    exact fits_empty1 _ _ _ _ _ 9 n t _ hq w
  · rw [Pr.one_text (Q := fun cs => cs ≠ []) (N := n = Fx.stop n) (fun cs => by simp [Pr.Kd]), Pr.q_some] at hb
    have hq : decide ((t ≠ ⟨#[]⟩ ∧ Pr.Snd t)) = true ↔ (t ≠ ⟨#[]⟩ ∧ Pr.Snd t) := decide_eq_true_iff
    rw [← bool_of hb _ hq]
    exact fits_named1 _ _ _ _ _ 10 n t _ hq hm w hT
  · rw [Pr.one_text (Q := fun cs => ∃ c, cs = [c] ∧ Pr.Del c) (N := n = 0) (fun cs => by simp [Pr.Kd]), Pr.q_del] at hb
    have hq : decide (Pr.DelT t) = true ↔ Pr.DelT t := decide_eq_true_iff
    rw [← bool_of hb _ hq]
    exact fits_delimits0 _ _ _ _ _ 11 n t _ hq hm w hT
  · rw [Pr.one_text (Q := fun cs => (cs = [40] ∨ cs = [91] ∨ cs = [123])) (N := n = 0) (fun cs => by simp [Pr.Kd]), Pr.q_opens] at hb
    have hq : decide ((t = ⟨#[40]⟩ ∨ t = ⟨#[91]⟩ ∨ t = ⟨#[123]⟩)) = true ↔ (t = ⟨#[40]⟩ ∨ t = ⟨#[91]⟩ ∨ t = ⟨#[123]⟩) := decide_eq_true_iff
    rw [← bool_of hb _ hq]
    exact fits_opens0 _ _ _ _ _ 12 n t _ hq w
  · rw [Pr.one_text (Q := fun cs => (cs = [41] ∨ cs = [93] ∨ cs = [125])) (N := n = 0) (fun cs => by simp [Pr.Kd]), Pr.q_closes] at hb
    have hq : decide ((t = ⟨#[41]⟩ ∨ t = ⟨#[93]⟩ ∨ t = ⟨#[125]⟩)) = true ↔ (t = ⟨#[41]⟩ ∨ t = ⟨#[93]⟩ ∨ t = ⟨#[125]⟩) := decide_eq_true_iff
    rw [← bool_of hb _ hq]
    exact fits_closes0 _ _ _ _ _ 13 n t _ hq w
  · rw [Pr.one_text (Q := fun cs => cs = []) (N := n = 0) (fun cs => by simp [Pr.Kd]), Pr.q_nil] at hb
    have hq : decide (t = ⟨#[]⟩) = true ↔ t = ⟨#[]⟩ := decide_eq_true_iff
    rw [← bool_of hb _ hq]
    exact fits_empty0 _ _ _ _ _ 14 n t _ hq w
  · rw [Pr.one_text (Q := fun cs => cs = []) (N := n = 0) (fun cs => by simp [Pr.Kd]), Pr.q_nil] at hb
    have hq : decide (t = ⟨#[]⟩) = true ↔ t = ⟨#[]⟩ := decide_eq_true_iff
    rw [← bool_of hb _ hq]
    exact fits_empty0 _ _ _ _ _ 15 n t _ hq w
  · rw [Pr.one_text (Q := fun cs => cs = []) (N := n = 0) (fun cs => by simp [Pr.Kd]), Pr.q_nil] at hb
    have hq : decide (t = ⟨#[]⟩) = true ↔ t = ⟨#[]⟩ := decide_eq_true_iff
    rw [← bool_of hb _ hq]
    exact fits_empty0 _ _ _ _ _ 16 n t _ hq w
/-- the text of a token that may be, written -/
theorem write_at (c : Nat) (p : Pr.PT) (ho : Pr.One p) (b : Nat) (l : List Int) (w : World) (h : Bu w b l) (hcb : c ≠ b) (hc : w.heap[c]? = some (.cells #[fNumber] 34 (0, 0))) (hT : PTab b w) (hl : l.length ≤ 1000000) (hm : (Tk.str p.2.1).size ≤ 10000) :
    Calls Tryz.prog 23 #[kindAt c p.1, .pointer (some ⟨b, 0, none⟩), tokV p.1 (Tk.str p.2.1) p.2.2] w (Wrote b (l ++ Ru.wr (Pr.tokC p)) w) := by
  obtain ⟨k, cs, n⟩ := p
  obtain ⟨hok, hk⟩ := ho
  simp only at hok hk hm ⊢
  have hx := Pr.txt_str (fun c hc => (hok c hc).1 : ∀ c ∈ cs, Ru.Is c)
  have hbs := Pr.str_bs cs
  have hsz := Pr.txt_size hx
  have hcl := Pr.wr_len_ge cs
  have hz : ∀ l : List Int, (Tk.str l).size = (Ru.wr l).length := fun l => by rw [← Ru.bs_len, Pr.str_bs]
  have hnm : ∀ dim, (Tk.str (Pr.nm dim cs)).size ≤ 90000 := fun dim => by
    have := Pr.nmT_len dim cs hx.2 cs.length (Nat.le_refl _)
    rw [hz]
    show (Ru.wr (Pr.nmT dim cs cs.length)).length ≤ _
    omega
  have hen : (Tk.str (Pr.enq cs)).size ≤ 90000 := by
    have := Pr.enT_len cs hx.2 cs.length (Nat.le_refl _)
    unfold Pr.enT at this
    rw [List.take_length] at this
    rw [hz]; omega
  have hnc : Ru.wr (Pr.nC n) = Pr.nC n := Pr.wr_asc' (fun c hc => by have := Pr.nC_chr n c hc; omega)
  have hns : (Tk.str (Pr.nC n)).size ≤ 40 := by rw [hz, hnc]; exact Pr.nC_len n
  generalize Tk.str cs = t at *
  have BT : ∀ kd, ∀ w1, PTab w1.heap.size w1 → Calls Tryz.prog 46 #[tokV kd t n] w1 (Sg t w1) := fun kd w1 _ => text_body kd n t w1
  have BN : ∀ kd, ∀ w1, PTab w1.heap.size w1 → Calls Tryz.prog 47 #[tokV kd t n] w1 (Sg (Tk.str (Pr.nm false cs)) w1) := fun kd w1 h => name_body kd n t cs hx hm w1 h
  have BI : ∀ kd, ∀ w1, PTab w1.heap.size w1 → Calls Tryz.prog 49 #[tokV kd t n] w1 (Sg (Tk.str (Pr.enq cs)) w1) := fun kd w1 h => inner_body kd n t cs hx hm w1 h
  have BM : ∀ kd, ∀ w1, PTab w1.heap.size w1 → Calls Tryz.prog 51 #[tokV kd t n] w1 (Sg (Tk.str (Pr.nC n)) w1) := fun kd w1 h => number_body kd n t w1 h
  have BB : ∀ kd, ∀ w1, PTab w1.heap.size w1 → w1.heap[c]? = some (.cells #[fNumber] 34 (0, 0)) → Calls Tryz.prog 53 #[tokV kd t n, .pointer (some ⟨c, 0, none⟩)] w1 (Sg (Tk.str (Pr.nC n ++ Pr.nm true cs)) w1) := fun kd w1 h hc => both_body kd n t cs hx hm c w1 hc h
  unfold Pr.Kd at hk
  rcases hk with ⟨rfl, rfl, rfl⟩ | ⟨rfl | rfl | rfl | rfl, hl2, rfl⟩ | ⟨rfl | rfl, rfl⟩ | ⟨rfl | rfl, rfl, hn⟩ | ⟨rfl, hl2, hn⟩ | ⟨rfl, _, rfl⟩ | ⟨rfl, _, rfl⟩ | ⟨rfl, _, rfl⟩ | ⟨rfl | rfl | rfl, rfl, rfl⟩
  · have hw := write_text false 54 ⟨#[10]⟩ ⟨#[]⟩ t 1 0 t b l w h hT (by decide) (by decide) (by omega) hl (BT 1)
    have e : Ru.bs ⟨#[10]⟩ ++ (Ru.bs t ++ Ru.bs ⟨#[]⟩) = Ru.wr (Pr.tokC (1, [], 0)) := by
      show _ = Ru.wr ([10])
      rw [show Ru.bs ⟨#[10]⟩ = Ru.wr [10] from rfl, hbs, show Ru.bs ⟨#[]⟩ = Ru.wr [] from rfl, ← Pr.wr_app, ← Pr.wr_app]
      exact congrArg Ru.wr (by simp)
    rw [e] at hw
    exact hw
  · have hw := write_name false 55 ⟨#[]⟩ ⟨#[]⟩ (Tk.str (Pr.nm false cs)) 2 0 t b l w h hT (by decide) (by decide) (by have := hnm false; omega) hl (BN 2)
    have e : Ru.bs ⟨#[]⟩ ++ (Ru.bs (Tk.str (Pr.nm false cs)) ++ Ru.bs ⟨#[]⟩) = Ru.wr (Pr.tokC (2, cs, 0)) := by
      show _ = Ru.wr (Pr.nm false cs)
      rw [show Ru.bs ⟨#[]⟩ = Ru.wr [] from rfl, Pr.str_bs, ← Pr.wr_app, ← Pr.wr_app]
      exact congrArg Ru.wr (by simp)
    rw [e] at hw
    exact hw
  · have hw := write_name false 55 ⟨#[]⟩ ⟨#[40]⟩ (Tk.str (Pr.nm false cs)) 3 0 t b l w h hT (by decide) (by decide) (by have := hnm false; omega) hl (BN 3)
    have e : Ru.bs ⟨#[]⟩ ++ (Ru.bs (Tk.str (Pr.nm false cs)) ++ Ru.bs ⟨#[40]⟩) = Ru.wr (Pr.tokC (3, cs, 0)) := by
      show _ = Ru.wr (Pr.nm false cs ++ [40])
      rw [show Ru.bs ⟨#[]⟩ = Ru.wr [] from rfl, Pr.str_bs, show Ru.bs ⟨#[40]⟩ = Ru.wr [40] from rfl, ← Pr.wr_app, ← Pr.wr_app]
      exact congrArg Ru.wr (by simp)
    rw [e] at hw
    exact hw
  · have hw := write_name false 55 ⟨#[64]⟩ ⟨#[]⟩ (Tk.str (Pr.nm false cs)) 4 0 t b l w h hT (by decide) (by decide) (by have := hnm false; omega) hl (BN 4)
    have e : Ru.bs ⟨#[64]⟩ ++ (Ru.bs (Tk.str (Pr.nm false cs)) ++ Ru.bs ⟨#[]⟩) = Ru.wr (Pr.tokC (4, cs, 0)) := by
      show _ = Ru.wr (64 :: Pr.nm false cs)
      rw [show Ru.bs ⟨#[64]⟩ = Ru.wr [64] from rfl, Pr.str_bs, show Ru.bs ⟨#[]⟩ = Ru.wr [] from rfl, ← Pr.wr_app, ← Pr.wr_app]
      exact congrArg Ru.wr (by simp)
    rw [e] at hw
    exact hw
  · have hw := write_name false 55 ⟨#[35]⟩ ⟨#[]⟩ (Tk.str (Pr.nm false cs)) 5 0 t b l w h hT (by decide) (by decide) (by have := hnm false; omega) hl (BN 5)
    have e : Ru.bs ⟨#[35]⟩ ++ (Ru.bs (Tk.str (Pr.nm false cs)) ++ Ru.bs ⟨#[]⟩) = Ru.wr (Pr.tokC (5, cs, 0)) := by
      show _ = Ru.wr (35 :: Pr.nm false cs)
      rw [show Ru.bs ⟨#[35]⟩ = Ru.wr [35] from rfl, Pr.str_bs, show Ru.bs ⟨#[]⟩ = Ru.wr [] from rfl, ← Pr.wr_app, ← Pr.wr_app]
      exact congrArg Ru.wr (by simp)
    rw [e] at hw
    exact hw
  · have hw := write_inner false 56 ⟨#[34]⟩ ⟨#[34]⟩ (Tk.str (Pr.enq cs)) 6 0 t b l w h hT (by decide) (by decide) (by omega) hl (BI 6)
    have e : Ru.bs ⟨#[34]⟩ ++ (Ru.bs (Tk.str (Pr.enq cs)) ++ Ru.bs ⟨#[34]⟩) = Ru.wr (Pr.tokC (6, cs, 0)) := by
      show _ = Ru.wr (34 :: (Pr.enq cs ++ [34]))
      rw [show Ru.bs ⟨#[34]⟩ = Ru.wr [34] from rfl, Pr.str_bs, ← Pr.wr_app, ← Pr.wr_app]
      exact congrArg Ru.wr (by simp)
    rw [e] at hw
    exact hw
  · have hw := write_inner false 56 ⟨#[34]⟩ ⟨#[]⟩ (Tk.str (Pr.enq cs)) 7 0 t b l w h hT (by decide) (by decide) (by omega) hl (BI 7)
    have e : Ru.bs ⟨#[34]⟩ ++ (Ru.bs (Tk.str (Pr.enq cs)) ++ Ru.bs ⟨#[]⟩) = Ru.wr (Pr.tokC (7, cs, 0)) := by
      show _ = Ru.wr (34 :: Pr.enq cs)
      rw [show Ru.bs ⟨#[34]⟩ = Ru.wr [34] from rfl, Pr.str_bs, show Ru.bs ⟨#[]⟩ = Ru.wr [] from rfl, ← Pr.wr_app, ← Pr.wr_app]
      exact congrArg Ru.wr (by simp)
    rw [e] at hw
    exact hw
  · have hw := write_number true 54 ⟨#[]⟩ ⟨#[]⟩ (Tk.str (Pr.nC n)) 8 n t b l w h hT (by decide) (by decide) (by omega) hl (BM 8)
    have e : Ru.bs ⟨#[]⟩ ++ (Ru.bs (Tk.str (Pr.nC n)) ++ Ru.bs ⟨#[]⟩) = Ru.wr (Pr.tokC (8, [], n)) := by
      show _ = Ru.wr (Pr.nC n)
      rw [show Ru.bs ⟨#[]⟩ = Ru.wr [] from rfl, Pr.str_bs, ← Pr.wr_app, ← Pr.wr_app]
      exact congrArg Ru.wr (by simp)
    rw [e] at hw
    exact hw
  · have hw := write_number true 54 ⟨#[]⟩ ⟨#[37]⟩ (Tk.str (Pr.nC n)) 9 n t b l w h hT (by decide) (by decide) (by omega) hl (BM 9)
    have e : Ru.bs ⟨#[]⟩ ++ (Ru.bs (Tk.str (Pr.nC n)) ++ Ru.bs ⟨#[37]⟩) = Ru.wr (Pr.tokC (9, [], n)) := by
      show _ = Ru.wr (Pr.nC n ++ [37])
      rw [show Ru.bs ⟨#[]⟩ = Ru.wr [] from rfl, Pr.str_bs, show Ru.bs ⟨#[37]⟩ = Ru.wr [37] from rfl, ← Pr.wr_app, ← Pr.wr_app]
      exact congrArg Ru.wr (by simp)
    rw [e] at hw
    exact hw
  · have hw := write_both true 55 ⟨#[]⟩ ⟨#[]⟩ (Tk.str (Pr.nC n ++ Pr.nm true cs)) c 10 n t b l w h hcb hc hT (by decide) (by decide) (by rw [hz, Pr.wr_app, List.length_append]; have h1 := hnm true; rw [hz] at h1; rw [hz] at hns; omega) hl (BB 10)
    have e : Ru.bs ⟨#[]⟩ ++ (Ru.bs (Tk.str (Pr.nC n ++ Pr.nm true cs)) ++ Ru.bs ⟨#[]⟩) = Ru.wr (Pr.tokC (10, cs, n)) := by
      show _ = Ru.wr (Pr.nC n ++ Pr.nm true cs)
      rw [show Ru.bs ⟨#[]⟩ = Ru.wr [] from rfl, Pr.str_bs, ← Pr.wr_app, ← Pr.wr_app]
      exact congrArg Ru.wr (by simp)
    rw [e] at hw
    exact hw
  · have hw := write_text false 57 ⟨#[]⟩ ⟨#[]⟩ t 11 0 t b l w h hT (by decide) (by decide) (by omega) hl (BT 11)
    have e : Ru.bs ⟨#[]⟩ ++ (Ru.bs t ++ Ru.bs ⟨#[]⟩) = Ru.wr (Pr.tokC (11, cs, 0)) := by
      show _ = Ru.wr (cs)
      rw [show Ru.bs ⟨#[]⟩ = Ru.wr [] from rfl, hbs, ← Pr.wr_app, ← Pr.wr_app]
      exact congrArg Ru.wr (by simp)
    rw [e] at hw
    exact hw
  · have hw := write_text false 58 ⟨#[]⟩ ⟨#[]⟩ t 12 0 t b l w h hT (by decide) (by decide) (by omega) hl (BT 12)
    have e : Ru.bs ⟨#[]⟩ ++ (Ru.bs t ++ Ru.bs ⟨#[]⟩) = Ru.wr (Pr.tokC (12, cs, 0)) := by
      show _ = Ru.wr (cs)
      rw [show Ru.bs ⟨#[]⟩ = Ru.wr [] from rfl, hbs, ← Pr.wr_app, ← Pr.wr_app]
      exact congrArg Ru.wr (by simp)
    rw [e] at hw
    exact hw
  · have hw := write_text false 59 ⟨#[]⟩ ⟨#[]⟩ t 13 0 t b l w h hT (by decide) (by decide) (by omega) hl (BT 13)
    have e : Ru.bs ⟨#[]⟩ ++ (Ru.bs t ++ Ru.bs ⟨#[]⟩) = Ru.wr (Pr.tokC (13, cs, 0)) := by
      show _ = Ru.wr (cs)
      rw [show Ru.bs ⟨#[]⟩ = Ru.wr [] from rfl, hbs, ← Pr.wr_app, ← Pr.wr_app]
      exact congrArg Ru.wr (by simp)
    rw [e] at hw
    exact hw
  · have hw := write_text false 54 ⟨#[58]⟩ ⟨#[]⟩ t 14 0 t b l w h hT (by decide) (by decide) (by omega) hl (BT 14)
    have e : Ru.bs ⟨#[58]⟩ ++ (Ru.bs t ++ Ru.bs ⟨#[]⟩) = Ru.wr (Pr.tokC (14, [], 0)) := by
      show _ = Ru.wr ([58])
      rw [show Ru.bs ⟨#[58]⟩ = Ru.wr [58] from rfl, hbs, show Ru.bs ⟨#[]⟩ = Ru.wr [] from rfl, ← Pr.wr_app, ← Pr.wr_app]
      exact congrArg Ru.wr (by simp)
    rw [e] at hw
    exact hw
  · have hw := write_text false 54 ⟨#[59]⟩ ⟨#[]⟩ t 15 0 t b l w h hT (by decide) (by decide) (by omega) hl (BT 15)
    have e : Ru.bs ⟨#[59]⟩ ++ (Ru.bs t ++ Ru.bs ⟨#[]⟩) = Ru.wr (Pr.tokC (15, [], 0)) := by
      show _ = Ru.wr ([59])
      rw [show Ru.bs ⟨#[59]⟩ = Ru.wr [59] from rfl, hbs, show Ru.bs ⟨#[]⟩ = Ru.wr [] from rfl, ← Pr.wr_app, ← Pr.wr_app]
      exact congrArg Ru.wr (by simp)
    rw [e] at hw
    exact hw
  · have hw := write_text false 54 ⟨#[44]⟩ ⟨#[]⟩ t 16 0 t b l w h hT (by decide) (by decide) (by omega) hl (BT 16)
    have e : Ru.bs ⟨#[44]⟩ ++ (Ru.bs t ++ Ru.bs ⟨#[]⟩) = Ru.wr (Pr.tokC (16, [], 0)) := by
      show _ = Ru.wr ([44])
      rw [show Ru.bs ⟨#[44]⟩ = Ru.wr [44] from rfl, hbs, show Ru.bs ⟨#[]⟩ = Ru.wr [] from rfl, ← Pr.wr_app, ← Pr.wr_app]
      exact congrArg Ru.wr (by simp)
    rw [e] at hw
    exact hw
end Go.Proofs.YtgcmjkimiakibaaGreatDoor
