/-
  The walk of the reference's Item: counter.
-/
import Derived.Test.YtaofkaehhikfaaaGaf
set_option maxHeartbeats 16000000
set_option maxRecDepth 100000
namespace Go.Proofs.Ytaofkaehhikfaaa
open Go.RowKit Vl
theorem vitem_cnt1 (tx : ByteArray) (num : Int) (A : Option Addr) (n cap : Nat) (w : World) (kx : Int) (sx : ByteArray) (nx : Int) (CA : Hid (∀ W, Below w.heap.size w W -> Calls Try.prog 89 #[prtV (3, tx, num) A n cap] W (ArgT 1 [(kx, sx, nx)] W))) (CN : Hid (∀ W A n c, Calls Try.prog 43 #[prtV (kx, sx, nx) A n c] W (Bo true W))) (ls : ByteArray) (CL : Hid (∀ W, Calls Try.prog 52 #[prtV (3, tx, num) A n cap] W (Sg ls W))) (eattr : (ls.toList == [97, 116, 116, 114]) = false) (ecounters : (ls.toList == [99, 111, 117, 110, 116, 101, 114, 115]) = false) (ecounter : (ls.toList == [99, 111, 117, 110, 116, 101, 114]) = true) : Calls Try.prog 70 #[prtV (3, tx, num) A n cap] w (ItIs (some (2, ⟨#[]⟩, sx, 0, 0)) w) := by
 obtain ⟨W2, hW, hF⟩ : ∃ W2, ((w.alloc (prtO (3, tx, num) A n cap)).alloc (itO 0 ⟨#[]⟩ ⟨#[]⟩ 0 0)).alloc (itO 0 ⟨#[]⟩ ⟨#[]⟩ 0 0) = W2 /\ ItF w W2 (3, tx, num) A n cap := ⟨_, rfl, ItF.start w _ A n cap⟩
 have HW := Lib.hid hW
 have HF := Lib.hid hF
 obtain ⟨p0, p1, p2, p3⟩ : W2.cell? ⟨w.heap.size, 0, none⟩ = some (.int .i64 3) /\ W2.cell? ⟨w.heap.size, 1, none⟩ = some (.string tx) /\ W2.cell? ⟨w.heap.size, 2, none⟩ = some (.int .i64 num) /\ W2.cell? ⟨w.heap.size, 3, none⟩ = some (.slice A n cap) := four_cells hF.p
 clear hF hW
 go_enter Try.func70, Try.ntmps70
 go_upto_region 2 with fail
 rw [HW.out]
 clear HW
 go_upto_region 8 with (first | (go_at_call 89; ((with_reducible refine (CA.out _ HF.out.b).mono ?_); rintro e w3 ⟨A1, c1, rfl, hc1, C1, b3⟩; have HF := Lib.hid (HF.out.next b3); obtain ⟨b, off, rfl, hb, hq⟩ := tkp_all C1 (by simp); obtain ⟨A0, n0, cp0, q00, q01, q02, q03⟩ : ∃ A0 n0 cp0, w3.cell? ⟨b, off, none⟩ = some (.int .i64 kx) /\ w3.cell? ⟨b, off + 1, none⟩ = some (.string sx) /\ w3.cell? ⟨b, off + 2, none⟩ = some (.int .i64 nx) /\ w3.cell? ⟨b, off + 3, none⟩ = some (.slice A0 n0 cp0) := hq 0 (by simp); obtain ⟨p0, p1, p2, p3⟩ : w3.cell? ⟨w.heap.size, 0, none⟩ = some (.int .i64 3) /\ w3.cell? ⟨w.heap.size, 1, none⟩ = some (.string tx) /\ w3.cell? ⟨w.heap.size, 2, none⟩ = some (.int .i64 num) /\ w3.cell? ⟨w.heap.size, 3, none⟩ = some (.slice A n cap) := four_cells HF.out.p; clear b3 hq C1)) | (go_at_call 43; ((with_reducible refine (CN.out _ _ _ _).mono ?_); rintro e w4 ⟨rfl, b4⟩; have HF := Lib.hid (HF.out.next b4); have q00 := (b4.cell (p := ⟨b, off, none⟩) hb).trans q00; have q01 := (b4.cell (p := ⟨b, off + 1, none⟩) hb).trans q01; have q02 := (b4.cell (p := ⟨b, off + 2, none⟩) hb).trans q02; have q03 := (b4.cell (p := ⟨b, off + 3, none⟩) hb).trans q03; have hb := Nat.lt_of_lt_of_le hb b4.size; obtain ⟨p0, p1, p2, p3⟩ : w4.cell? ⟨w.heap.size, 0, none⟩ = some (.int .i64 3) /\ w4.cell? ⟨w.heap.size, 1, none⟩ = some (.string tx) /\ w4.cell? ⟨w.heap.size, 2, none⟩ = some (.int .i64 num) /\ w4.cell? ⟨w.heap.size, 3, none⟩ = some (.slice A n cap) := four_cells HF.out.p; clear b4)))
 have k7 := heap_alloc_new w4 (itO 0 ⟨#[]⟩ sx 0 0)
 have b7 := (Below.refl w4.heap.size w4).alloc (Nat.le_refl _) (itO 0 ⟨#[]⟩ sx 0 0)
 have hg7 := HF.out.lt
 have hbg := hb
 generalize w4.alloc (itO 0 ⟨#[]⟩ sx 0 0) = w7 at k7 b7 ⊢
 replace HF := Lib.hid (HF.out.next b7)
 replace q00 := (b7.cell (p := ⟨b, off, none⟩) hb).trans q00
 replace q01 := (b7.cell (p := ⟨b, off + 1, none⟩) hb).trans q01
 replace q02 := (b7.cell (p := ⟨b, off + 2, none⟩) hb).trans q02
 replace q03 := (b7.cell (p := ⟨b, off + 3, none⟩) hb).trans q03
 replace hb := Nat.lt_of_lt_of_le hb b7.size
 obtain ⟨p0, p1, p2, p3⟩ : w7.cell? ⟨w.heap.size, 0, none⟩ = some (.int .i64 3) /\ w7.cell? ⟨w.heap.size, 1, none⟩ = some (.string tx) /\ w7.cell? ⟨w.heap.size, 2, none⟩ = some (.int .i64 num) /\ w7.cell? ⟨w.heap.size, 3, none⟩ = some (.slice A n cap) := four_cells HF.out.p
 have HK := Lib.hid k7
 clear k7 b7
 go_upto_region 28 with (go_at_call 52; ((with_reducible refine (CL.out _).mono ?_); rintro e w8 ⟨rfl, b8⟩; have HF := Lib.hid (HF.out.next b8); have HK := Lib.hid (below_block b8 HK.out); have q00 := (b8.cell (p := ⟨b, off, none⟩) hb).trans q00; have q01 := (b8.cell (p := ⟨b, off + 1, none⟩) hb).trans q01; have q02 := (b8.cell (p := ⟨b, off + 2, none⟩) hb).trans q02; have q03 := (b8.cell (p := ⟨b, off + 3, none⟩) hb).trans q03; have hb := Nat.lt_of_lt_of_le hb b8.size; obtain ⟨⟨x0, x1, x2, x3, x4⟩, xz⟩ := five_cells HK.out; obtain ⟨⟨r0, r1, r2, r3, r4⟩, rz⟩ := five_cells HF.out.r; obtain ⟨⟨z0, z1, z2, z3, z4⟩, zz⟩ := five_cells HF.out.z; clear b8))
 have HK := Lib.hid (set5 HK.out (.int .i64 2)).1
 have HF := Lib.hid (HF.out.set hg7 0 (.int .i64 2))
 have q00 := (far_cell (i := 0) (v := .int .i64 2) (o := off) (W := w8) hbg).trans q00
 have q01 := (far_cell (i := 0) (v := .int .i64 2) (o := off + 1) (W := w8) hbg).trans q01
 have q02 := (far_cell (i := 0) (v := .int .i64 2) (o := off + 2) (W := w8) hbg).trans q02
 have q03 := (far_cell (i := 0) (v := .int .i64 2) (o := off + 3) (W := w8) hbg).trans q03
 have hb := Nat.lt_of_lt_of_le hb (Nat.le_of_eq (heap_setCell_size w8 ⟨w4.heap.size, 0, none⟩ (.int .i64 2)).symm)
 generalize w8.setCell ⟨w4.heap.size, 0, none⟩ (.int .i64 2) = w9 at HK HF hb q00 q01 q02 q03 ⊢
 obtain ⟨⟨x0, x1, x2, x3, x4⟩, xz⟩ := five_cells HK.out
 obtain ⟨⟨r0, r1, r2, r3, r4⟩, rz⟩ := five_cells HF.out.r
 obtain ⟨⟨z0, z1, z2, z3, z4⟩, zz⟩ := five_cells HF.out.z
 go_wp2_with fail
 go_region
 all_goals (go_wp2_with fail)
 all_goals exact bodyPost_ret (v := .tuple #[itV (2, ⟨#[]⟩, sx, 0, 0), .bool true]) (by simp [results, Try.results70, go_sem, r0, r1, r2, r3, r4]) rfl ⟨(2, ⟨#[]⟩, sx, 0, 0), true, rfl, below_set5 HF.out.b.drew (by omega) _ _ _ _ _, rfl⟩
theorem vitem_cnt_long (tx : ByteArray) (num : Int) (A : Option Addr) (n cap : Nat) (w : World) (kx : Int) (sx : ByteArray) (nx : Int) (rest : List Tk.Tok) (N : Nat) (hN : 3 <= N) (hNm : N <= 1000) (CA : Hid (∀ W, Below w.heap.size w W -> Calls Try.prog 89 #[prtV (3, tx, num) A n cap] W (ArgT N ((kx, sx, nx) :: rest) W))) (CN : Hid (∀ W A n c, Calls Try.prog 43 #[prtV (kx, sx, nx) A n c] W (Bo true W))) (ls : ByteArray) (CL : Hid (∀ W, Calls Try.prog 52 #[prtV (3, tx, num) A n cap] W (Sg ls W))) (eattr : (ls.toList == [97, 116, 116, 114]) = false) (ecounters : (ls.toList == [99, 111, 117, 110, 116, 101, 114, 115]) = false) (ecounter : (ls.toList == [99, 111, 117, 110, 116, 101, 114]) = true) : Calls Try.prog 70 #[prtV (3, tx, num) A n cap] w (ItIs none w) := by
 obtain ⟨W2, hW, hF⟩ : ∃ W2, ((w.alloc (prtO (3, tx, num) A n cap)).alloc (itO 0 ⟨#[]⟩ ⟨#[]⟩ 0 0)).alloc (itO 0 ⟨#[]⟩ ⟨#[]⟩ 0 0) = W2 /\ ItF w W2 (3, tx, num) A n cap := ⟨_, rfl, ItF.start w _ A n cap⟩
 have HW := Lib.hid hW
 have HF := Lib.hid hF
 obtain ⟨p0, p1, p2, p3⟩ : W2.cell? ⟨w.heap.size, 0, none⟩ = some (.int .i64 3) /\ W2.cell? ⟨w.heap.size, 1, none⟩ = some (.string tx) /\ W2.cell? ⟨w.heap.size, 2, none⟩ = some (.int .i64 num) /\ W2.cell? ⟨w.heap.size, 3, none⟩ = some (.slice A n cap) := four_cells hF.p
 clear hF hW
 go_enter Try.func70, Try.ntmps70
 go_upto_region 2 with fail
 rw [HW.out]
 clear HW
 go_upto_region 8 with (first | (go_at_call 89; ((with_reducible refine (CA.out _ HF.out.b).mono ?_); rintro e w3 ⟨A1, c1, rfl, hc1, C1, b3⟩; have HF := Lib.hid (HF.out.next b3); obtain ⟨b, off, rfl, hb, hq⟩ := tkp_all C1 (by simp); obtain ⟨A0, n0, cp0, q00, q01, q02, q03⟩ : ∃ A0 n0 cp0, w3.cell? ⟨b, off, none⟩ = some (.int .i64 kx) /\ w3.cell? ⟨b, off + 1, none⟩ = some (.string sx) /\ w3.cell? ⟨b, off + 2, none⟩ = some (.int .i64 nx) /\ w3.cell? ⟨b, off + 3, none⟩ = some (.slice A0 n0 cp0) := hq 0 (by simp); obtain ⟨p0, p1, p2, p3⟩ : w3.cell? ⟨w.heap.size, 0, none⟩ = some (.int .i64 3) /\ w3.cell? ⟨w.heap.size, 1, none⟩ = some (.string tx) /\ w3.cell? ⟨w.heap.size, 2, none⟩ = some (.int .i64 num) /\ w3.cell? ⟨w.heap.size, 3, none⟩ = some (.slice A n cap) := four_cells HF.out.p; clear b3 hq C1)) | (go_at_call 43; ((with_reducible refine (CN.out _ _ _ _).mono ?_); rintro e w4 ⟨rfl, b4⟩; have HF := Lib.hid (HF.out.next b4); have q00 := (b4.cell (p := ⟨b, off, none⟩) hb).trans q00; have q01 := (b4.cell (p := ⟨b, off + 1, none⟩) hb).trans q01; have q02 := (b4.cell (p := ⟨b, off + 2, none⟩) hb).trans q02; have q03 := (b4.cell (p := ⟨b, off + 3, none⟩) hb).trans q03; have hb := Nat.lt_of_lt_of_le hb b4.size; obtain ⟨p0, p1, p2, p3⟩ : w4.cell? ⟨w.heap.size, 0, none⟩ = some (.int .i64 3) /\ w4.cell? ⟨w.heap.size, 1, none⟩ = some (.string tx) /\ w4.cell? ⟨w.heap.size, 2, none⟩ = some (.int .i64 num) /\ w4.cell? ⟨w.heap.size, 3, none⟩ = some (.slice A n cap) := four_cells HF.out.p; clear b4)))
 have k7 := heap_alloc_new w4 (itO 0 ⟨#[]⟩ sx 0 0)
 have b7 := (Below.refl w4.heap.size w4).alloc (Nat.le_refl _) (itO 0 ⟨#[]⟩ sx 0 0)
 have hg7 := HF.out.lt
 have hbg := hb
 generalize w4.alloc (itO 0 ⟨#[]⟩ sx 0 0) = w7 at k7 b7 ⊢
 replace HF := Lib.hid (HF.out.next b7)
 replace q00 := (b7.cell (p := ⟨b, off, none⟩) hb).trans q00
 replace q01 := (b7.cell (p := ⟨b, off + 1, none⟩) hb).trans q01
 replace q02 := (b7.cell (p := ⟨b, off + 2, none⟩) hb).trans q02
 replace q03 := (b7.cell (p := ⟨b, off + 3, none⟩) hb).trans q03
 replace hb := Nat.lt_of_lt_of_le hb b7.size
 obtain ⟨p0, p1, p2, p3⟩ : w7.cell? ⟨w.heap.size, 0, none⟩ = some (.int .i64 3) /\ w7.cell? ⟨w.heap.size, 1, none⟩ = some (.string tx) /\ w7.cell? ⟨w.heap.size, 2, none⟩ = some (.int .i64 num) /\ w7.cell? ⟨w.heap.size, 3, none⟩ = some (.slice A n cap) := four_cells HF.out.p
 have HK := Lib.hid k7
 clear k7 b7
 go_upto_region 28 with (go_at_call 52; ((with_reducible refine (CL.out _).mono ?_); rintro e w8 ⟨rfl, b8⟩; have HF := Lib.hid (HF.out.next b8); have HK := Lib.hid (below_block b8 HK.out); have q00 := (b8.cell (p := ⟨b, off, none⟩) hb).trans q00; have q01 := (b8.cell (p := ⟨b, off + 1, none⟩) hb).trans q01; have q02 := (b8.cell (p := ⟨b, off + 2, none⟩) hb).trans q02; have q03 := (b8.cell (p := ⟨b, off + 3, none⟩) hb).trans q03; have hb := Nat.lt_of_lt_of_le hb b8.size; obtain ⟨⟨x0, x1, x2, x3, x4⟩, xz⟩ := five_cells HK.out; obtain ⟨⟨r0, r1, r2, r3, r4⟩, rz⟩ := five_cells HF.out.r; obtain ⟨⟨z0, z1, z2, z3, z4⟩, zz⟩ := five_cells HF.out.z; clear b8))
 have HK := Lib.hid (set5 HK.out (.int .i64 2)).1
 have HF := Lib.hid (HF.out.set hg7 0 (.int .i64 2))
 have q00 := (far_cell (i := 0) (v := .int .i64 2) (o := off) (W := w8) hbg).trans q00
 have q01 := (far_cell (i := 0) (v := .int .i64 2) (o := off + 1) (W := w8) hbg).trans q01
 have q02 := (far_cell (i := 0) (v := .int .i64 2) (o := off + 2) (W := w8) hbg).trans q02
 have q03 := (far_cell (i := 0) (v := .int .i64 2) (o := off + 3) (W := w8) hbg).trans q03
 have hb := Nat.lt_of_lt_of_le hb (Nat.le_of_eq (heap_setCell_size w8 ⟨w4.heap.size, 0, none⟩ (.int .i64 2)).symm)
 generalize w8.setCell ⟨w4.heap.size, 0, none⟩ (.int .i64 2) = w9 at HK HF hb q00 q01 q02 q03 ⊢
 obtain ⟨⟨x0, x1, x2, x3, x4⟩, xz⟩ := five_cells HK.out
 obtain ⟨⟨r0, r1, r2, r3, r4⟩, rz⟩ := five_cells HF.out.r
 obtain ⟨⟨z0, z1, z2, z3, z4⟩, zz⟩ := five_cells HF.out.z
 go_wp2_with fail
 exact bodyPost_ret (v := .tuple #[itV (0, ⟨#[]⟩, ⟨#[]⟩, 0, 0), .bool false]) (by simp [results, Try.results70, go_sem, r0, r1, r2, r3, r4]) rfl ⟨(0, ⟨#[]⟩, ⟨#[]⟩, 0, 0), false, rfl, below_set5 HF.out.b (by omega) _ _ _ _ _, rfl⟩
theorem vitem_cnt_bad (tx : ByteArray) (num : Int) (A : Option Addr) (n cap : Nat) (w : World) (kx : Int) (sx : ByteArray) (nx : Int) (ky : Int) (sy : ByteArray) (ny : Int) (CA : Hid (∀ W, Below w.heap.size w W -> Calls Try.prog 89 #[prtV (3, tx, num) A n cap] W (ArgT 2 [(kx, sx, nx), (ky, sy, ny)] W))) (CN : Hid (∀ W A n c, Calls Try.prog 43 #[prtV (kx, sx, nx) A n c] W (Bo true W))) (ls : ByteArray) (CL : Hid (∀ W, Calls Try.prog 52 #[prtV (3, tx, num) A n cap] W (Sg ls W))) (eattr : (ls.toList == [97, 116, 116, 114]) = false) (ecounters : (ls.toList == [99, 111, 117, 110, 116, 101, 114, 115]) = false) (ecounter : (ls.toList == [99, 111, 117, 110, 116, 101, 114]) = true) (hky : (ky != 2) = true) : Calls Try.prog 70 #[prtV (3, tx, num) A n cap] w (ItIs none w) := by
 obtain ⟨W2, hW, hF⟩ : ∃ W2, ((w.alloc (prtO (3, tx, num) A n cap)).alloc (itO 0 ⟨#[]⟩ ⟨#[]⟩ 0 0)).alloc (itO 0 ⟨#[]⟩ ⟨#[]⟩ 0 0) = W2 /\ ItF w W2 (3, tx, num) A n cap := ⟨_, rfl, ItF.start w _ A n cap⟩
 have HW := Lib.hid hW
 have HF := Lib.hid hF
 obtain ⟨p0, p1, p2, p3⟩ : W2.cell? ⟨w.heap.size, 0, none⟩ = some (.int .i64 3) /\ W2.cell? ⟨w.heap.size, 1, none⟩ = some (.string tx) /\ W2.cell? ⟨w.heap.size, 2, none⟩ = some (.int .i64 num) /\ W2.cell? ⟨w.heap.size, 3, none⟩ = some (.slice A n cap) := four_cells hF.p
 clear hF hW
 go_enter Try.func70, Try.ntmps70
 go_upto_region 2 with fail
 rw [HW.out]
 clear HW
 go_upto_region 8 with (first | (go_at_call 89; ((with_reducible refine (CA.out _ HF.out.b).mono ?_); rintro e w3 ⟨A1, c1, rfl, hc1, C1, b3⟩; have HF := Lib.hid (HF.out.next b3); obtain ⟨b, off, rfl, hb, hq⟩ := tkp_all C1 (by simp); obtain ⟨A0, n0, cp0, q00, q01, q02, q03⟩ : ∃ A0 n0 cp0, w3.cell? ⟨b, off, none⟩ = some (.int .i64 kx) /\ w3.cell? ⟨b, off + 1, none⟩ = some (.string sx) /\ w3.cell? ⟨b, off + 2, none⟩ = some (.int .i64 nx) /\ w3.cell? ⟨b, off + 3, none⟩ = some (.slice A0 n0 cp0) := hq 0 (by simp); obtain ⟨A1, n1, cp1, q10, q11, q12, q13⟩ : ∃ A1 n1 cp1, w3.cell? ⟨b, off + 4, none⟩ = some (.int .i64 ky) /\ w3.cell? ⟨b, off + 4 + 1, none⟩ = some (.string sy) /\ w3.cell? ⟨b, off + 4 + 2, none⟩ = some (.int .i64 ny) /\ w3.cell? ⟨b, off + 4 + 3, none⟩ = some (.slice A1 n1 cp1) := hq 1 (by simp); obtain ⟨p0, p1, p2, p3⟩ : w3.cell? ⟨w.heap.size, 0, none⟩ = some (.int .i64 3) /\ w3.cell? ⟨w.heap.size, 1, none⟩ = some (.string tx) /\ w3.cell? ⟨w.heap.size, 2, none⟩ = some (.int .i64 num) /\ w3.cell? ⟨w.heap.size, 3, none⟩ = some (.slice A n cap) := four_cells HF.out.p; clear b3 hq C1)) | (go_at_call 43; ((with_reducible refine (CN.out _ _ _ _).mono ?_); rintro e w4 ⟨rfl, b4⟩; have HF := Lib.hid (HF.out.next b4); have q00 := (b4.cell (p := ⟨b, off, none⟩) hb).trans q00; have q01 := (b4.cell (p := ⟨b, off + 1, none⟩) hb).trans q01; have q02 := (b4.cell (p := ⟨b, off + 2, none⟩) hb).trans q02; have q03 := (b4.cell (p := ⟨b, off + 3, none⟩) hb).trans q03; have q10 := (b4.cell (p := ⟨b, off + 4, none⟩) hb).trans q10; have q11 := (b4.cell (p := ⟨b, off + 4 + 1, none⟩) hb).trans q11; have q12 := (b4.cell (p := ⟨b, off + 4 + 2, none⟩) hb).trans q12; have q13 := (b4.cell (p := ⟨b, off + 4 + 3, none⟩) hb).trans q13; have hb := Nat.lt_of_lt_of_le hb b4.size; obtain ⟨p0, p1, p2, p3⟩ : w4.cell? ⟨w.heap.size, 0, none⟩ = some (.int .i64 3) /\ w4.cell? ⟨w.heap.size, 1, none⟩ = some (.string tx) /\ w4.cell? ⟨w.heap.size, 2, none⟩ = some (.int .i64 num) /\ w4.cell? ⟨w.heap.size, 3, none⟩ = some (.slice A n cap) := four_cells HF.out.p; clear b4)))
 have k7 := heap_alloc_new w4 (itO 0 ⟨#[]⟩ sx 0 0)
 have b7 := (Below.refl w4.heap.size w4).alloc (Nat.le_refl _) (itO 0 ⟨#[]⟩ sx 0 0)
 have hg7 := HF.out.lt
 have hbg := hb
 generalize w4.alloc (itO 0 ⟨#[]⟩ sx 0 0) = w7 at k7 b7 ⊢
 replace HF := Lib.hid (HF.out.next b7)
 replace q00 := (b7.cell (p := ⟨b, off, none⟩) hb).trans q00
 replace q01 := (b7.cell (p := ⟨b, off + 1, none⟩) hb).trans q01
 replace q02 := (b7.cell (p := ⟨b, off + 2, none⟩) hb).trans q02
 replace q03 := (b7.cell (p := ⟨b, off + 3, none⟩) hb).trans q03
 replace q10 := (b7.cell (p := ⟨b, off + 4, none⟩) hb).trans q10
 replace q11 := (b7.cell (p := ⟨b, off + 4 + 1, none⟩) hb).trans q11
 replace q12 := (b7.cell (p := ⟨b, off + 4 + 2, none⟩) hb).trans q12
 replace q13 := (b7.cell (p := ⟨b, off + 4 + 3, none⟩) hb).trans q13
 replace hb := Nat.lt_of_lt_of_le hb b7.size
 obtain ⟨p0, p1, p2, p3⟩ : w7.cell? ⟨w.heap.size, 0, none⟩ = some (.int .i64 3) /\ w7.cell? ⟨w.heap.size, 1, none⟩ = some (.string tx) /\ w7.cell? ⟨w.heap.size, 2, none⟩ = some (.int .i64 num) /\ w7.cell? ⟨w.heap.size, 3, none⟩ = some (.slice A n cap) := four_cells HF.out.p
 have HK := Lib.hid k7
 clear k7 b7
 go_upto_region 28 with (go_at_call 52; ((with_reducible refine (CL.out _).mono ?_); rintro e w8 ⟨rfl, b8⟩; have HF := Lib.hid (HF.out.next b8); have HK := Lib.hid (below_block b8 HK.out); have q00 := (b8.cell (p := ⟨b, off, none⟩) hb).trans q00; have q01 := (b8.cell (p := ⟨b, off + 1, none⟩) hb).trans q01; have q02 := (b8.cell (p := ⟨b, off + 2, none⟩) hb).trans q02; have q03 := (b8.cell (p := ⟨b, off + 3, none⟩) hb).trans q03; have q10 := (b8.cell (p := ⟨b, off + 4, none⟩) hb).trans q10; have q11 := (b8.cell (p := ⟨b, off + 4 + 1, none⟩) hb).trans q11; have q12 := (b8.cell (p := ⟨b, off + 4 + 2, none⟩) hb).trans q12; have q13 := (b8.cell (p := ⟨b, off + 4 + 3, none⟩) hb).trans q13; have hb := Nat.lt_of_lt_of_le hb b8.size; obtain ⟨⟨x0, x1, x2, x3, x4⟩, xz⟩ := five_cells HK.out; obtain ⟨⟨r0, r1, r2, r3, r4⟩, rz⟩ := five_cells HF.out.r; obtain ⟨⟨z0, z1, z2, z3, z4⟩, zz⟩ := five_cells HF.out.z; clear b8))
 have HK := Lib.hid (set5 HK.out (.int .i64 2)).1
 have HF := Lib.hid (HF.out.set hg7 0 (.int .i64 2))
 have q00 := (far_cell (i := 0) (v := .int .i64 2) (o := off) (W := w8) hbg).trans q00
 have q01 := (far_cell (i := 0) (v := .int .i64 2) (o := off + 1) (W := w8) hbg).trans q01
 have q02 := (far_cell (i := 0) (v := .int .i64 2) (o := off + 2) (W := w8) hbg).trans q02
 have q03 := (far_cell (i := 0) (v := .int .i64 2) (o := off + 3) (W := w8) hbg).trans q03
 have q10 := (far_cell (i := 0) (v := .int .i64 2) (o := off + 4) (W := w8) hbg).trans q10
 have q11 := (far_cell (i := 0) (v := .int .i64 2) (o := off + 4 + 1) (W := w8) hbg).trans q11
 have q12 := (far_cell (i := 0) (v := .int .i64 2) (o := off + 4 + 2) (W := w8) hbg).trans q12
 have q13 := (far_cell (i := 0) (v := .int .i64 2) (o := off + 4 + 3) (W := w8) hbg).trans q13
 have hb := Nat.lt_of_lt_of_le hb (Nat.le_of_eq (heap_setCell_size w8 ⟨w4.heap.size, 0, none⟩ (.int .i64 2)).symm)
 generalize w8.setCell ⟨w4.heap.size, 0, none⟩ (.int .i64 2) = w9 at HK HF hb q00 q01 q02 q03 q10 q11 q12 q13 ⊢
 obtain ⟨⟨x0, x1, x2, x3, x4⟩, xz⟩ := five_cells HK.out
 obtain ⟨⟨r0, r1, r2, r3, r4⟩, rz⟩ := five_cells HF.out.r
 obtain ⟨⟨z0, z1, z2, z3, z4⟩, zz⟩ := five_cells HF.out.z
 go_wp2_with fail
 exact bodyPost_ret (v := .tuple #[itV (0, ⟨#[]⟩, ⟨#[]⟩, 0, 0), .bool false]) (by simp [results, Try.results70, go_sem, r0, r1, r2, r3, r4]) rfl ⟨(0, ⟨#[]⟩, ⟨#[]⟩, 0, 0), false, rfl, below_set5 HF.out.b (by omega) _ _ _ _ _, rfl⟩
theorem vitem_cnt2 (tx : ByteArray) (num : Int) (A : Option Addr) (n cap : Nat) (w : World) (kx : Int) (sx : ByteArray) (nx : Int) (ky : Int) (sy : ByteArray) (ny : Int) (CA : Hid (∀ W, Below w.heap.size w W -> Calls Try.prog 89 #[prtV (3, tx, num) A n cap] W (ArgT 2 [(kx, sx, nx), (ky, sy, ny)] W))) (CN : Hid (∀ W A n c, Calls Try.prog 43 #[prtV (kx, sx, nx) A n c] W (Bo true W))) (ls : ByteArray) (CL : Hid (∀ W, Calls Try.prog 52 #[prtV (3, tx, num) A n cap] W (Sg ls W))) (eattr : (ls.toList == [97, 116, 116, 114]) = false) (ecounters : (ls.toList == [99, 111, 117, 110, 116, 101, 114, 115]) = false) (ecounter : (ls.toList == [99, 111, 117, 110, 116, 101, 114]) = true) (hky : (ky != 2) = false) (st : Int) (hst : 0 <= st) (CS : Hid (∀ W, Calls Try.prog 32 #[.string sy] W (Nu st W))) : Calls Try.prog 70 #[prtV (3, tx, num) A n cap] w (ItIs (some (2, ⟨#[]⟩, sx, st, 0)) w) := by
 obtain ⟨W2, hW, hF⟩ : ∃ W2, ((w.alloc (prtO (3, tx, num) A n cap)).alloc (itO 0 ⟨#[]⟩ ⟨#[]⟩ 0 0)).alloc (itO 0 ⟨#[]⟩ ⟨#[]⟩ 0 0) = W2 /\ ItF w W2 (3, tx, num) A n cap := ⟨_, rfl, ItF.start w _ A n cap⟩
 have HW := Lib.hid hW
 have HF := Lib.hid hF
 obtain ⟨p0, p1, p2, p3⟩ : W2.cell? ⟨w.heap.size, 0, none⟩ = some (.int .i64 3) /\ W2.cell? ⟨w.heap.size, 1, none⟩ = some (.string tx) /\ W2.cell? ⟨w.heap.size, 2, none⟩ = some (.int .i64 num) /\ W2.cell? ⟨w.heap.size, 3, none⟩ = some (.slice A n cap) := four_cells hF.p
 clear hF hW
 go_enter Try.func70, Try.ntmps70
 go_upto_region 2 with fail
 rw [HW.out]
 clear HW
 go_upto_region 8 with (first | (go_at_call 89; ((with_reducible refine (CA.out _ HF.out.b).mono ?_); rintro e w3 ⟨A1, c1, rfl, hc1, C1, b3⟩; have HF := Lib.hid (HF.out.next b3); obtain ⟨b, off, rfl, hb, hq⟩ := tkp_all C1 (by simp); obtain ⟨A0, n0, cp0, q00, q01, q02, q03⟩ : ∃ A0 n0 cp0, w3.cell? ⟨b, off, none⟩ = some (.int .i64 kx) /\ w3.cell? ⟨b, off + 1, none⟩ = some (.string sx) /\ w3.cell? ⟨b, off + 2, none⟩ = some (.int .i64 nx) /\ w3.cell? ⟨b, off + 3, none⟩ = some (.slice A0 n0 cp0) := hq 0 (by simp); obtain ⟨A1, n1, cp1, q10, q11, q12, q13⟩ : ∃ A1 n1 cp1, w3.cell? ⟨b, off + 4, none⟩ = some (.int .i64 ky) /\ w3.cell? ⟨b, off + 4 + 1, none⟩ = some (.string sy) /\ w3.cell? ⟨b, off + 4 + 2, none⟩ = some (.int .i64 ny) /\ w3.cell? ⟨b, off + 4 + 3, none⟩ = some (.slice A1 n1 cp1) := hq 1 (by simp); obtain ⟨p0, p1, p2, p3⟩ : w3.cell? ⟨w.heap.size, 0, none⟩ = some (.int .i64 3) /\ w3.cell? ⟨w.heap.size, 1, none⟩ = some (.string tx) /\ w3.cell? ⟨w.heap.size, 2, none⟩ = some (.int .i64 num) /\ w3.cell? ⟨w.heap.size, 3, none⟩ = some (.slice A n cap) := four_cells HF.out.p; clear b3 hq C1)) | (go_at_call 43; ((with_reducible refine (CN.out _ _ _ _).mono ?_); rintro e w4 ⟨rfl, b4⟩; have HF := Lib.hid (HF.out.next b4); have q00 := (b4.cell (p := ⟨b, off, none⟩) hb).trans q00; have q01 := (b4.cell (p := ⟨b, off + 1, none⟩) hb).trans q01; have q02 := (b4.cell (p := ⟨b, off + 2, none⟩) hb).trans q02; have q03 := (b4.cell (p := ⟨b, off + 3, none⟩) hb).trans q03; have q10 := (b4.cell (p := ⟨b, off + 4, none⟩) hb).trans q10; have q11 := (b4.cell (p := ⟨b, off + 4 + 1, none⟩) hb).trans q11; have q12 := (b4.cell (p := ⟨b, off + 4 + 2, none⟩) hb).trans q12; have q13 := (b4.cell (p := ⟨b, off + 4 + 3, none⟩) hb).trans q13; have hb := Nat.lt_of_lt_of_le hb b4.size; obtain ⟨p0, p1, p2, p3⟩ : w4.cell? ⟨w.heap.size, 0, none⟩ = some (.int .i64 3) /\ w4.cell? ⟨w.heap.size, 1, none⟩ = some (.string tx) /\ w4.cell? ⟨w.heap.size, 2, none⟩ = some (.int .i64 num) /\ w4.cell? ⟨w.heap.size, 3, none⟩ = some (.slice A n cap) := four_cells HF.out.p; clear b4)))
 have k7 := heap_alloc_new w4 (itO 0 ⟨#[]⟩ sx 0 0)
 have b7 := (Below.refl w4.heap.size w4).alloc (Nat.le_refl _) (itO 0 ⟨#[]⟩ sx 0 0)
 have hg7 := HF.out.lt
 have hbg := hb
 generalize w4.alloc (itO 0 ⟨#[]⟩ sx 0 0) = w7 at k7 b7 ⊢
 replace HF := Lib.hid (HF.out.next b7)
 replace q00 := (b7.cell (p := ⟨b, off, none⟩) hb).trans q00
 replace q01 := (b7.cell (p := ⟨b, off + 1, none⟩) hb).trans q01
 replace q02 := (b7.cell (p := ⟨b, off + 2, none⟩) hb).trans q02
 replace q03 := (b7.cell (p := ⟨b, off + 3, none⟩) hb).trans q03
 replace q10 := (b7.cell (p := ⟨b, off + 4, none⟩) hb).trans q10
 replace q11 := (b7.cell (p := ⟨b, off + 4 + 1, none⟩) hb).trans q11
 replace q12 := (b7.cell (p := ⟨b, off + 4 + 2, none⟩) hb).trans q12
 replace q13 := (b7.cell (p := ⟨b, off + 4 + 3, none⟩) hb).trans q13
 replace hb := Nat.lt_of_lt_of_le hb b7.size
 obtain ⟨p0, p1, p2, p3⟩ : w7.cell? ⟨w.heap.size, 0, none⟩ = some (.int .i64 3) /\ w7.cell? ⟨w.heap.size, 1, none⟩ = some (.string tx) /\ w7.cell? ⟨w.heap.size, 2, none⟩ = some (.int .i64 num) /\ w7.cell? ⟨w.heap.size, 3, none⟩ = some (.slice A n cap) := four_cells HF.out.p
 have HK := Lib.hid k7
 clear k7 b7
 go_upto_region 28 with (go_at_call 52; ((with_reducible refine (CL.out _).mono ?_); rintro e w8 ⟨rfl, b8⟩; have HF := Lib.hid (HF.out.next b8); have HK := Lib.hid (below_block b8 HK.out); have q00 := (b8.cell (p := ⟨b, off, none⟩) hb).trans q00; have q01 := (b8.cell (p := ⟨b, off + 1, none⟩) hb).trans q01; have q02 := (b8.cell (p := ⟨b, off + 2, none⟩) hb).trans q02; have q03 := (b8.cell (p := ⟨b, off + 3, none⟩) hb).trans q03; have q10 := (b8.cell (p := ⟨b, off + 4, none⟩) hb).trans q10; have q11 := (b8.cell (p := ⟨b, off + 4 + 1, none⟩) hb).trans q11; have q12 := (b8.cell (p := ⟨b, off + 4 + 2, none⟩) hb).trans q12; have q13 := (b8.cell (p := ⟨b, off + 4 + 3, none⟩) hb).trans q13; have hb := Nat.lt_of_lt_of_le hb b8.size; obtain ⟨⟨x0, x1, x2, x3, x4⟩, xz⟩ := five_cells HK.out; obtain ⟨⟨r0, r1, r2, r3, r4⟩, rz⟩ := five_cells HF.out.r; obtain ⟨⟨z0, z1, z2, z3, z4⟩, zz⟩ := five_cells HF.out.z; clear b8))
 have HK := Lib.hid (set5 HK.out (.int .i64 2)).1
 have HF := Lib.hid (HF.out.set hg7 0 (.int .i64 2))
 have q00 := (far_cell (i := 0) (v := .int .i64 2) (o := off) (W := w8) hbg).trans q00
 have q01 := (far_cell (i := 0) (v := .int .i64 2) (o := off + 1) (W := w8) hbg).trans q01
 have q02 := (far_cell (i := 0) (v := .int .i64 2) (o := off + 2) (W := w8) hbg).trans q02
 have q03 := (far_cell (i := 0) (v := .int .i64 2) (o := off + 3) (W := w8) hbg).trans q03
 have q10 := (far_cell (i := 0) (v := .int .i64 2) (o := off + 4) (W := w8) hbg).trans q10
 have q11 := (far_cell (i := 0) (v := .int .i64 2) (o := off + 4 + 1) (W := w8) hbg).trans q11
 have q12 := (far_cell (i := 0) (v := .int .i64 2) (o := off + 4 + 2) (W := w8) hbg).trans q12
 have q13 := (far_cell (i := 0) (v := .int .i64 2) (o := off + 4 + 3) (W := w8) hbg).trans q13
 have hb := Nat.lt_of_lt_of_le hb (Nat.le_of_eq (heap_setCell_size w8 ⟨w4.heap.size, 0, none⟩ (.int .i64 2)).symm)
 generalize w8.setCell ⟨w4.heap.size, 0, none⟩ (.int .i64 2) = w9 at HK HF hb q00 q01 q02 q03 q10 q11 q12 q13 ⊢
 obtain ⟨⟨x0, x1, x2, x3, x4⟩, xz⟩ := five_cells HK.out
 obtain ⟨⟨r0, r1, r2, r3, r4⟩, rz⟩ := five_cells HF.out.r
 obtain ⟨⟨z0, z1, z2, z3, z4⟩, zz⟩ := five_cells HF.out.z
 go_upto_region 37 with (go_at_call 32; ((with_reducible refine (CS.out _).mono ?_); rintro e w20 ⟨rfl, b20⟩; have HF := Lib.hid (HF.out.next b20); have HK := Lib.hid (below_block b20 HK.out); have q00 := (b20.cell (p := ⟨b, off, none⟩) hb).trans q00; have q01 := (b20.cell (p := ⟨b, off + 1, none⟩) hb).trans q01; have q02 := (b20.cell (p := ⟨b, off + 2, none⟩) hb).trans q02; have q03 := (b20.cell (p := ⟨b, off + 3, none⟩) hb).trans q03; have q10 := (b20.cell (p := ⟨b, off + 4, none⟩) hb).trans q10; have q11 := (b20.cell (p := ⟨b, off + 4 + 1, none⟩) hb).trans q11; have q12 := (b20.cell (p := ⟨b, off + 4 + 2, none⟩) hb).trans q12; have q13 := (b20.cell (p := ⟨b, off + 4 + 3, none⟩) hb).trans q13; have hb := Nat.lt_of_lt_of_le hb b20.size; obtain ⟨⟨x0, x1, x2, x3, x4⟩, xz⟩ := five_cells HK.out; obtain ⟨⟨r0, r1, r2, r3, r4⟩, rz⟩ := five_cells HF.out.r; obtain ⟨⟨z0, z1, z2, z3, z4⟩, zz⟩ := five_cells HF.out.z; clear b20))
 have HK := Lib.hid (set5 HK.out (.int .i64 st)).2.2.1
 have HF := Lib.hid (HF.out.set hg7 3 (.int .i64 st))
 have q00 := (far_cell (i := 3) (v := .int .i64 st) (o := off) (W := w20) hbg).trans q00
 have q01 := (far_cell (i := 3) (v := .int .i64 st) (o := off + 1) (W := w20) hbg).trans q01
 have q02 := (far_cell (i := 3) (v := .int .i64 st) (o := off + 2) (W := w20) hbg).trans q02
 have q03 := (far_cell (i := 3) (v := .int .i64 st) (o := off + 3) (W := w20) hbg).trans q03
 have q10 := (far_cell (i := 3) (v := .int .i64 st) (o := off + 4) (W := w20) hbg).trans q10
 have q11 := (far_cell (i := 3) (v := .int .i64 st) (o := off + 4 + 1) (W := w20) hbg).trans q11
 have q12 := (far_cell (i := 3) (v := .int .i64 st) (o := off + 4 + 2) (W := w20) hbg).trans q12
 have q13 := (far_cell (i := 3) (v := .int .i64 st) (o := off + 4 + 3) (W := w20) hbg).trans q13
 have hb := Nat.lt_of_lt_of_le hb (Nat.le_of_eq (heap_setCell_size w20 ⟨w4.heap.size, 3, none⟩ (.int .i64 st)).symm)
 generalize w20.setCell ⟨w4.heap.size, 3, none⟩ (.int .i64 st) = w21 at HK HF hb q00 q01 q02 q03 q10 q11 q12 q13 ⊢
 obtain ⟨⟨x0, x1, x2, x3, x4⟩, xz⟩ := five_cells HK.out
 obtain ⟨⟨r0, r1, r2, r3, r4⟩, rz⟩ := five_cells HF.out.r
 obtain ⟨⟨z0, z1, z2, z3, z4⟩, zz⟩ := five_cells HF.out.z
 go_wp2_with fail
 go_region
 all_goals (go_wp2_with fail)
 all_goals exact bodyPost_ret (v := .tuple #[itV (2, ⟨#[]⟩, sx, st, 0), .bool true]) (by simp [results, Try.results70, go_sem, r0, r1, r2, r3, r4]) rfl ⟨(2, ⟨#[]⟩, sx, st, 0), true, rfl, below_set5 HF.out.b.drew (by omega) _ _ _ _ _, rfl⟩
theorem vitem_cnt2n (tx : ByteArray) (num : Int) (A : Option Addr) (n cap : Nat) (w : World) (kx : Int) (sx : ByteArray) (nx : Int) (ky : Int) (sy : ByteArray) (ny : Int) (CA : Hid (∀ W, Below w.heap.size w W -> Calls Try.prog 89 #[prtV (3, tx, num) A n cap] W (ArgT 2 [(kx, sx, nx), (ky, sy, ny)] W))) (CN : Hid (∀ W A n c, Calls Try.prog 43 #[prtV (kx, sx, nx) A n c] W (Bo true W))) (ls : ByteArray) (CL : Hid (∀ W, Calls Try.prog 52 #[prtV (3, tx, num) A n cap] W (Sg ls W))) (eattr : (ls.toList == [97, 116, 116, 114]) = false) (ecounters : (ls.toList == [99, 111, 117, 110, 116, 101, 114, 115]) = false) (ecounter : (ls.toList == [99, 111, 117, 110, 116, 101, 114]) = true) (hky : (ky != 2) = false) (st : Int) (hst : st < 0) (CS : Hid (∀ W, Calls Try.prog 32 #[.string sy] W (Nu st W))) : Calls Try.prog 70 #[prtV (3, tx, num) A n cap] w (ItIs none w) := by
 obtain ⟨W2, hW, hF⟩ : ∃ W2, ((w.alloc (prtO (3, tx, num) A n cap)).alloc (itO 0 ⟨#[]⟩ ⟨#[]⟩ 0 0)).alloc (itO 0 ⟨#[]⟩ ⟨#[]⟩ 0 0) = W2 /\ ItF w W2 (3, tx, num) A n cap := ⟨_, rfl, ItF.start w _ A n cap⟩
 have HW := Lib.hid hW
 have HF := Lib.hid hF
 obtain ⟨p0, p1, p2, p3⟩ : W2.cell? ⟨w.heap.size, 0, none⟩ = some (.int .i64 3) /\ W2.cell? ⟨w.heap.size, 1, none⟩ = some (.string tx) /\ W2.cell? ⟨w.heap.size, 2, none⟩ = some (.int .i64 num) /\ W2.cell? ⟨w.heap.size, 3, none⟩ = some (.slice A n cap) := four_cells hF.p
 clear hF hW
 go_enter Try.func70, Try.ntmps70
 go_upto_region 2 with fail
 rw [HW.out]
 clear HW
 go_upto_region 8 with (first | (go_at_call 89; ((with_reducible refine (CA.out _ HF.out.b).mono ?_); rintro e w3 ⟨A1, c1, rfl, hc1, C1, b3⟩; have HF := Lib.hid (HF.out.next b3); obtain ⟨b, off, rfl, hb, hq⟩ := tkp_all C1 (by simp); obtain ⟨A0, n0, cp0, q00, q01, q02, q03⟩ : ∃ A0 n0 cp0, w3.cell? ⟨b, off, none⟩ = some (.int .i64 kx) /\ w3.cell? ⟨b, off + 1, none⟩ = some (.string sx) /\ w3.cell? ⟨b, off + 2, none⟩ = some (.int .i64 nx) /\ w3.cell? ⟨b, off + 3, none⟩ = some (.slice A0 n0 cp0) := hq 0 (by simp); obtain ⟨A1, n1, cp1, q10, q11, q12, q13⟩ : ∃ A1 n1 cp1, w3.cell? ⟨b, off + 4, none⟩ = some (.int .i64 ky) /\ w3.cell? ⟨b, off + 4 + 1, none⟩ = some (.string sy) /\ w3.cell? ⟨b, off + 4 + 2, none⟩ = some (.int .i64 ny) /\ w3.cell? ⟨b, off + 4 + 3, none⟩ = some (.slice A1 n1 cp1) := hq 1 (by simp); obtain ⟨p0, p1, p2, p3⟩ : w3.cell? ⟨w.heap.size, 0, none⟩ = some (.int .i64 3) /\ w3.cell? ⟨w.heap.size, 1, none⟩ = some (.string tx) /\ w3.cell? ⟨w.heap.size, 2, none⟩ = some (.int .i64 num) /\ w3.cell? ⟨w.heap.size, 3, none⟩ = some (.slice A n cap) := four_cells HF.out.p; clear b3 hq C1)) | (go_at_call 43; ((with_reducible refine (CN.out _ _ _ _).mono ?_); rintro e w4 ⟨rfl, b4⟩; have HF := Lib.hid (HF.out.next b4); have q00 := (b4.cell (p := ⟨b, off, none⟩) hb).trans q00; have q01 := (b4.cell (p := ⟨b, off + 1, none⟩) hb).trans q01; have q02 := (b4.cell (p := ⟨b, off + 2, none⟩) hb).trans q02; have q03 := (b4.cell (p := ⟨b, off + 3, none⟩) hb).trans q03; have q10 := (b4.cell (p := ⟨b, off + 4, none⟩) hb).trans q10; have q11 := (b4.cell (p := ⟨b, off + 4 + 1, none⟩) hb).trans q11; have q12 := (b4.cell (p := ⟨b, off + 4 + 2, none⟩) hb).trans q12; have q13 := (b4.cell (p := ⟨b, off + 4 + 3, none⟩) hb).trans q13; have hb := Nat.lt_of_lt_of_le hb b4.size; obtain ⟨p0, p1, p2, p3⟩ : w4.cell? ⟨w.heap.size, 0, none⟩ = some (.int .i64 3) /\ w4.cell? ⟨w.heap.size, 1, none⟩ = some (.string tx) /\ w4.cell? ⟨w.heap.size, 2, none⟩ = some (.int .i64 num) /\ w4.cell? ⟨w.heap.size, 3, none⟩ = some (.slice A n cap) := four_cells HF.out.p; clear b4)))
 have k7 := heap_alloc_new w4 (itO 0 ⟨#[]⟩ sx 0 0)
 have b7 := (Below.refl w4.heap.size w4).alloc (Nat.le_refl _) (itO 0 ⟨#[]⟩ sx 0 0)
 have hg7 := HF.out.lt
 have hbg := hb
 generalize w4.alloc (itO 0 ⟨#[]⟩ sx 0 0) = w7 at k7 b7 ⊢
 replace HF := Lib.hid (HF.out.next b7)
 replace q00 := (b7.cell (p := ⟨b, off, none⟩) hb).trans q00
 replace q01 := (b7.cell (p := ⟨b, off + 1, none⟩) hb).trans q01
 replace q02 := (b7.cell (p := ⟨b, off + 2, none⟩) hb).trans q02
 replace q03 := (b7.cell (p := ⟨b, off + 3, none⟩) hb).trans q03
 replace q10 := (b7.cell (p := ⟨b, off + 4, none⟩) hb).trans q10
 replace q11 := (b7.cell (p := ⟨b, off + 4 + 1, none⟩) hb).trans q11
 replace q12 := (b7.cell (p := ⟨b, off + 4 + 2, none⟩) hb).trans q12
 replace q13 := (b7.cell (p := ⟨b, off + 4 + 3, none⟩) hb).trans q13
 replace hb := Nat.lt_of_lt_of_le hb b7.size
 obtain ⟨p0, p1, p2, p3⟩ : w7.cell? ⟨w.heap.size, 0, none⟩ = some (.int .i64 3) /\ w7.cell? ⟨w.heap.size, 1, none⟩ = some (.string tx) /\ w7.cell? ⟨w.heap.size, 2, none⟩ = some (.int .i64 num) /\ w7.cell? ⟨w.heap.size, 3, none⟩ = some (.slice A n cap) := four_cells HF.out.p
 have HK := Lib.hid k7
 clear k7 b7
 go_upto_region 28 with (go_at_call 52; ((with_reducible refine (CL.out _).mono ?_); rintro e w8 ⟨rfl, b8⟩; have HF := Lib.hid (HF.out.next b8); have HK := Lib.hid (below_block b8 HK.out); have q00 := (b8.cell (p := ⟨b, off, none⟩) hb).trans q00; have q01 := (b8.cell (p := ⟨b, off + 1, none⟩) hb).trans q01; have q02 := (b8.cell (p := ⟨b, off + 2, none⟩) hb).trans q02; have q03 := (b8.cell (p := ⟨b, off + 3, none⟩) hb).trans q03; have q10 := (b8.cell (p := ⟨b, off + 4, none⟩) hb).trans q10; have q11 := (b8.cell (p := ⟨b, off + 4 + 1, none⟩) hb).trans q11; have q12 := (b8.cell (p := ⟨b, off + 4 + 2, none⟩) hb).trans q12; have q13 := (b8.cell (p := ⟨b, off + 4 + 3, none⟩) hb).trans q13; have hb := Nat.lt_of_lt_of_le hb b8.size; obtain ⟨⟨x0, x1, x2, x3, x4⟩, xz⟩ := five_cells HK.out; obtain ⟨⟨r0, r1, r2, r3, r4⟩, rz⟩ := five_cells HF.out.r; obtain ⟨⟨z0, z1, z2, z3, z4⟩, zz⟩ := five_cells HF.out.z; clear b8))
 have HK := Lib.hid (set5 HK.out (.int .i64 2)).1
 have HF := Lib.hid (HF.out.set hg7 0 (.int .i64 2))
 have q00 := (far_cell (i := 0) (v := .int .i64 2) (o := off) (W := w8) hbg).trans q00
 have q01 := (far_cell (i := 0) (v := .int .i64 2) (o := off + 1) (W := w8) hbg).trans q01
 have q02 := (far_cell (i := 0) (v := .int .i64 2) (o := off + 2) (W := w8) hbg).trans q02
 have q03 := (far_cell (i := 0) (v := .int .i64 2) (o := off + 3) (W := w8) hbg).trans q03
 have q10 := (far_cell (i := 0) (v := .int .i64 2) (o := off + 4) (W := w8) hbg).trans q10
 have q11 := (far_cell (i := 0) (v := .int .i64 2) (o := off + 4 + 1) (W := w8) hbg).trans q11
 have q12 := (far_cell (i := 0) (v := .int .i64 2) (o := off + 4 + 2) (W := w8) hbg).trans q12
 have q13 := (far_cell (i := 0) (v := .int .i64 2) (o := off + 4 + 3) (W := w8) hbg).trans q13
 have hb := Nat.lt_of_lt_of_le hb (Nat.le_of_eq (heap_setCell_size w8 ⟨w4.heap.size, 0, none⟩ (.int .i64 2)).symm)
 generalize w8.setCell ⟨w4.heap.size, 0, none⟩ (.int .i64 2) = w9 at HK HF hb q00 q01 q02 q03 q10 q11 q12 q13 ⊢
 obtain ⟨⟨x0, x1, x2, x3, x4⟩, xz⟩ := five_cells HK.out
 obtain ⟨⟨r0, r1, r2, r3, r4⟩, rz⟩ := five_cells HF.out.r
 obtain ⟨⟨z0, z1, z2, z3, z4⟩, zz⟩ := five_cells HF.out.z
 go_upto_region 37 with (go_at_call 32; ((with_reducible refine (CS.out _).mono ?_); rintro e w20 ⟨rfl, b20⟩; have HF := Lib.hid (HF.out.next b20); have HK := Lib.hid (below_block b20 HK.out); have q00 := (b20.cell (p := ⟨b, off, none⟩) hb).trans q00; have q01 := (b20.cell (p := ⟨b, off + 1, none⟩) hb).trans q01; have q02 := (b20.cell (p := ⟨b, off + 2, none⟩) hb).trans q02; have q03 := (b20.cell (p := ⟨b, off + 3, none⟩) hb).trans q03; have q10 := (b20.cell (p := ⟨b, off + 4, none⟩) hb).trans q10; have q11 := (b20.cell (p := ⟨b, off + 4 + 1, none⟩) hb).trans q11; have q12 := (b20.cell (p := ⟨b, off + 4 + 2, none⟩) hb).trans q12; have q13 := (b20.cell (p := ⟨b, off + 4 + 3, none⟩) hb).trans q13; have hb := Nat.lt_of_lt_of_le hb b20.size; obtain ⟨⟨x0, x1, x2, x3, x4⟩, xz⟩ := five_cells HK.out; obtain ⟨⟨r0, r1, r2, r3, r4⟩, rz⟩ := five_cells HF.out.r; obtain ⟨⟨z0, z1, z2, z3, z4⟩, zz⟩ := five_cells HF.out.z; clear b20))
 have HK := Lib.hid (set5 HK.out (.int .i64 st)).2.2.1
 have HF := Lib.hid (HF.out.set hg7 3 (.int .i64 st))
 have q00 := (far_cell (i := 3) (v := .int .i64 st) (o := off) (W := w20) hbg).trans q00
 have q01 := (far_cell (i := 3) (v := .int .i64 st) (o := off + 1) (W := w20) hbg).trans q01
 have q02 := (far_cell (i := 3) (v := .int .i64 st) (o := off + 2) (W := w20) hbg).trans q02
 have q03 := (far_cell (i := 3) (v := .int .i64 st) (o := off + 3) (W := w20) hbg).trans q03
 have q10 := (far_cell (i := 3) (v := .int .i64 st) (o := off + 4) (W := w20) hbg).trans q10
 have q11 := (far_cell (i := 3) (v := .int .i64 st) (o := off + 4 + 1) (W := w20) hbg).trans q11
 have q12 := (far_cell (i := 3) (v := .int .i64 st) (o := off + 4 + 2) (W := w20) hbg).trans q12
 have q13 := (far_cell (i := 3) (v := .int .i64 st) (o := off + 4 + 3) (W := w20) hbg).trans q13
 have hb := Nat.lt_of_lt_of_le hb (Nat.le_of_eq (heap_setCell_size w20 ⟨w4.heap.size, 3, none⟩ (.int .i64 st)).symm)
 generalize w20.setCell ⟨w4.heap.size, 3, none⟩ (.int .i64 st) = w21 at HK HF hb q00 q01 q02 q03 q10 q11 q12 q13 ⊢
 obtain ⟨⟨x0, x1, x2, x3, x4⟩, xz⟩ := five_cells HK.out
 obtain ⟨⟨r0, r1, r2, r3, r4⟩, rz⟩ := five_cells HF.out.r
 obtain ⟨⟨z0, z1, z2, z3, z4⟩, zz⟩ := five_cells HF.out.z
 go_wp2_with fail
 go_region
 all_goals (go_wp2_with fail)
 all_goals exact bodyPost_ret (v := .tuple #[itV (2, ⟨#[]⟩, sx, st, 0), .bool false]) (by simp [results, Try.results70, go_sem, r0, r1, r2, r3, r4, hst]) rfl ⟨(2, ⟨#[]⟩, sx, st, 0), false, rfl, below_set5 HF.out.b.drew (by omega) _ _ _ _ _, rfl⟩
end Go.Proofs.Ytaofkaehhikfaaa
