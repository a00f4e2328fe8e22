/-
  The walk of the reference's Item: element.
-/
import Derived.Test.YtaofkaehhikfaaaGaf
import Derived.Test.YtaofkaehhikfaaaGag
import Derived.Test.YtaofkaehhikfaaaGah
import Derived.Test.YtaofkaehhikfaaaGai
import Derived.Test.YtaofkaehhikfaaaGaj
set_option maxHeartbeats 16000000
set_option maxRecDepth 100000
namespace Go.Proofs.Ytaofkaehhikfaaa
open Go.RowKit Vl
theorem vitem_el1 (tx : ByteArray) (num : Int) (A : Option Addr) (n cap : Nat) (w : World) (kx : Int) (sx : ByteArray) (nx : Int) (CA : Hid (∀ W, Below w.heap.size w W -> Calls Try.prog 89 #[prtV (3, tx, num) A n cap] W (ArgT 1 [(kx, sx, nx)] W))) (CN : Hid (∀ W A n c, Calls Try.prog 43 #[prtV (kx, sx, nx) A n c] W (Bo true W))) (ls : ByteArray) (CL : Hid (∀ W, Calls Try.prog 52 #[prtV (3, tx, num) A n cap] W (Sg ls W))) (eattr : (ls.toList == [97, 116, 116, 114]) = false) (ecounters : (ls.toList == [99, 111, 117, 110, 116, 101, 114, 115]) = false) (ecounter : (ls.toList == [99, 111, 117, 110, 116, 101, 114]) = false) (estring : (ls.toList == [115, 116, 114, 105, 110, 103]) = false) (eelement : (ls.toList == [101, 108, 101, 109, 101, 110, 116]) = true) : Calls Try.prog 70 #[prtV (3, tx, num) A n cap] w (ItIs (some (5, ⟨#[]⟩, sx, 0, 1)) w) := by
 obtain ⟨W2, hW, hF⟩ : ∃ W2, ((w.alloc (prtO (3, tx, num) A n cap)).alloc (itO 0 ⟨#[]⟩ ⟨#[]⟩ 0 0)).alloc (itO 0 ⟨#[]⟩ ⟨#[]⟩ 0 0) = W2 /\ ItF w W2 (3, tx, num) A n cap := ⟨_, rfl, ItF.start w _ A n cap⟩
 have HW := Lib.hid hW
 have HF := Lib.hid hF
 obtain ⟨p0, p1, p2, p3⟩ : W2.cell? ⟨w.heap.size, 0, none⟩ = some (.int .i64 3) /\ W2.cell? ⟨w.heap.size, 1, none⟩ = some (.string tx) /\ W2.cell? ⟨w.heap.size, 2, none⟩ = some (.int .i64 num) /\ W2.cell? ⟨w.heap.size, 3, none⟩ = some (.slice A n cap) := four_cells hF.p
 clear hF hW
 go_enter Try.func70, Try.ntmps70
 go_upto_region 2 with fail
 rw [HW.out]
 clear HW
 go_upto_region 8 with (first | (go_at_call 89; ((with_reducible refine (CA.out _ HF.out.b).mono ?_); rintro e w3 ⟨A1, c1, rfl, hc1, C1, b3⟩; have HF := Lib.hid (HF.out.next b3); obtain ⟨b, off, rfl, hb, hq⟩ := tkp_all C1 (by simp); obtain ⟨A0, n0, cp0, q00, q01, q02, q03⟩ : ∃ A0 n0 cp0, w3.cell? ⟨b, off, none⟩ = some (.int .i64 kx) /\ w3.cell? ⟨b, off + 1, none⟩ = some (.string sx) /\ w3.cell? ⟨b, off + 2, none⟩ = some (.int .i64 nx) /\ w3.cell? ⟨b, off + 3, none⟩ = some (.slice A0 n0 cp0) := hq 0 (by simp); obtain ⟨p0, p1, p2, p3⟩ : w3.cell? ⟨w.heap.size, 0, none⟩ = some (.int .i64 3) /\ w3.cell? ⟨w.heap.size, 1, none⟩ = some (.string tx) /\ w3.cell? ⟨w.heap.size, 2, none⟩ = some (.int .i64 num) /\ w3.cell? ⟨w.heap.size, 3, none⟩ = some (.slice A n cap) := four_cells HF.out.p; clear b3 hq C1)) | (go_at_call 43; ((with_reducible refine (CN.out _ _ _ _).mono ?_); rintro e w4 ⟨rfl, b4⟩; have HF := Lib.hid (HF.out.next b4); have q00 := (b4.cell (p := ⟨b, off, none⟩) hb).trans q00; have q01 := (b4.cell (p := ⟨b, off + 1, none⟩) hb).trans q01; have q02 := (b4.cell (p := ⟨b, off + 2, none⟩) hb).trans q02; have q03 := (b4.cell (p := ⟨b, off + 3, none⟩) hb).trans q03; have hb := Nat.lt_of_lt_of_le hb b4.size; obtain ⟨p0, p1, p2, p3⟩ : w4.cell? ⟨w.heap.size, 0, none⟩ = some (.int .i64 3) /\ w4.cell? ⟨w.heap.size, 1, none⟩ = some (.string tx) /\ w4.cell? ⟨w.heap.size, 2, none⟩ = some (.int .i64 num) /\ w4.cell? ⟨w.heap.size, 3, none⟩ = some (.slice A n cap) := four_cells HF.out.p; clear b4)))
 have k7 := heap_alloc_new w4 (itO 0 ⟨#[]⟩ sx 0 0)
 have b7 := (Below.refl w4.heap.size w4).alloc (Nat.le_refl _) (itO 0 ⟨#[]⟩ sx 0 0)
 have hg7 := HF.out.lt
 have hbg := hb
 generalize w4.alloc (itO 0 ⟨#[]⟩ sx 0 0) = w7 at k7 b7 ⊢
 replace HF := Lib.hid (HF.out.next b7)
 replace q00 := (b7.cell (p := ⟨b, off, none⟩) hb).trans q00
 replace q01 := (b7.cell (p := ⟨b, off + 1, none⟩) hb).trans q01
 replace q02 := (b7.cell (p := ⟨b, off + 2, none⟩) hb).trans q02
 replace q03 := (b7.cell (p := ⟨b, off + 3, none⟩) hb).trans q03
 replace hb := Nat.lt_of_lt_of_le hb b7.size
 obtain ⟨p0, p1, p2, p3⟩ : w7.cell? ⟨w.heap.size, 0, none⟩ = some (.int .i64 3) /\ w7.cell? ⟨w.heap.size, 1, none⟩ = some (.string tx) /\ w7.cell? ⟨w.heap.size, 2, none⟩ = some (.int .i64 num) /\ w7.cell? ⟨w.heap.size, 3, none⟩ = some (.slice A n cap) := four_cells HF.out.p
 have HK := Lib.hid k7
 clear k7 b7
 go_upto_region 28 with (go_at_call 52; ((with_reducible refine (CL.out _).mono ?_); rintro e w8 ⟨rfl, b8⟩; have HF := Lib.hid (HF.out.next b8); have HK := Lib.hid (below_block b8 HK.out); have q00 := (b8.cell (p := ⟨b, off, none⟩) hb).trans q00; have q01 := (b8.cell (p := ⟨b, off + 1, none⟩) hb).trans q01; have q02 := (b8.cell (p := ⟨b, off + 2, none⟩) hb).trans q02; have q03 := (b8.cell (p := ⟨b, off + 3, none⟩) hb).trans q03; have hb := Nat.lt_of_lt_of_le hb b8.size; obtain ⟨⟨x0, x1, x2, x3, x4⟩, xz⟩ := five_cells HK.out; obtain ⟨⟨r0, r1, r2, r3, r4⟩, rz⟩ := five_cells HF.out.r; obtain ⟨⟨z0, z1, z2, z3, z4⟩, zz⟩ := five_cells HF.out.z; clear b8))
 have HK := Lib.hid (set5 HK.out (.int .i64 5)).1
 have HF := Lib.hid (HF.out.set hg7 0 (.int .i64 5))
 have q00 := (far_cell (i := 0) (v := .int .i64 5) (o := off) (W := w8) hbg).trans q00
 have q01 := (far_cell (i := 0) (v := .int .i64 5) (o := off + 1) (W := w8) hbg).trans q01
 have q02 := (far_cell (i := 0) (v := .int .i64 5) (o := off + 2) (W := w8) hbg).trans q02
 have q03 := (far_cell (i := 0) (v := .int .i64 5) (o := off + 3) (W := w8) hbg).trans q03
 have hb := Nat.lt_of_lt_of_le hb (Nat.le_of_eq (heap_setCell_size w8 ⟨w4.heap.size, 0, none⟩ (.int .i64 5)).symm)
 generalize w8.setCell ⟨w4.heap.size, 0, none⟩ (.int .i64 5) = w9 at HK HF hb q00 q01 q02 q03 ⊢
 obtain ⟨⟨x0, x1, x2, x3, x4⟩, xz⟩ := five_cells HK.out
 obtain ⟨⟨r0, r1, r2, r3, r4⟩, rz⟩ := five_cells HF.out.r
 obtain ⟨⟨z0, z1, z2, z3, z4⟩, zz⟩ := five_cells HF.out.z
 go_upto_region 32 with fail
 have HK := Lib.hid (set5 HK.out (.int .i64 1)).2.2.2
 have HF := Lib.hid (HF.out.set hg7 4 (.int .i64 1))
 have q00 := (far_cell (i := 4) (v := .int .i64 1) (o := off) (W := w9) hbg).trans q00
 have q01 := (far_cell (i := 4) (v := .int .i64 1) (o := off + 1) (W := w9) hbg).trans q01
 have q02 := (far_cell (i := 4) (v := .int .i64 1) (o := off + 2) (W := w9) hbg).trans q02
 have q03 := (far_cell (i := 4) (v := .int .i64 1) (o := off + 3) (W := w9) hbg).trans q03
 have hb := Nat.lt_of_lt_of_le hb (Nat.le_of_eq (heap_setCell_size w9 ⟨w4.heap.size, 4, none⟩ (.int .i64 1)).symm)
 generalize w9.setCell ⟨w4.heap.size, 4, none⟩ (.int .i64 1) = w10 at HK HF hb q00 q01 q02 q03 ⊢
 obtain ⟨⟨x0, x1, x2, x3, x4⟩, xz⟩ := five_cells HK.out
 obtain ⟨⟨r0, r1, r2, r3, r4⟩, rz⟩ := five_cells HF.out.r
 obtain ⟨⟨z0, z1, z2, z3, z4⟩, zz⟩ := five_cells HF.out.z
 go_wp2_with fail
 go_region
 all_goals (go_wp2_with fail)
 all_goals exact bodyPost_ret (v := .tuple #[itV (5, ⟨#[]⟩, sx, 0, 1), .bool true]) (by simp [results, Try.results70, go_sem, r0, r1, r2, r3, r4]) rfl ⟨(5, ⟨#[]⟩, sx, 0, 1), true, rfl, below_set5 HF.out.b.drew (by omega) _ _ _ _ _, rfl⟩
theorem vitem_el_long (tx : ByteArray) (num : Int) (A : Option Addr) (n cap : Nat) (w : World) (kx : Int) (sx : ByteArray) (nx : Int) (rest : List Tk.Tok) (N : Nat) (hN : 3 <= N) (hNm : N <= 1000) (CA : Hid (∀ W, Below w.heap.size w W -> Calls Try.prog 89 #[prtV (3, tx, num) A n cap] W (ArgT N ((kx, sx, nx) :: rest) W))) (CN : Hid (∀ W A n c, Calls Try.prog 43 #[prtV (kx, sx, nx) A n c] W (Bo true W))) (ls : ByteArray) (CL : Hid (∀ W, Calls Try.prog 52 #[prtV (3, tx, num) A n cap] W (Sg ls W))) (eattr : (ls.toList == [97, 116, 116, 114]) = false) (ecounters : (ls.toList == [99, 111, 117, 110, 116, 101, 114, 115]) = false) (ecounter : (ls.toList == [99, 111, 117, 110, 116, 101, 114]) = false) (estring : (ls.toList == [115, 116, 114, 105, 110, 103]) = false) (eelement : (ls.toList == [101, 108, 101, 109, 101, 110, 116]) = true) : Calls Try.prog 70 #[prtV (3, tx, num) A n cap] w (ItIs none w) := by
 obtain ⟨W2, hW, hF⟩ : ∃ W2, ((w.alloc (prtO (3, tx, num) A n cap)).alloc (itO 0 ⟨#[]⟩ ⟨#[]⟩ 0 0)).alloc (itO 0 ⟨#[]⟩ ⟨#[]⟩ 0 0) = W2 /\ ItF w W2 (3, tx, num) A n cap := ⟨_, rfl, ItF.start w _ A n cap⟩
 have HW := Lib.hid hW
 have HF := Lib.hid hF
 obtain ⟨p0, p1, p2, p3⟩ : W2.cell? ⟨w.heap.size, 0, none⟩ = some (.int .i64 3) /\ W2.cell? ⟨w.heap.size, 1, none⟩ = some (.string tx) /\ W2.cell? ⟨w.heap.size, 2, none⟩ = some (.int .i64 num) /\ W2.cell? ⟨w.heap.size, 3, none⟩ = some (.slice A n cap) := four_cells hF.p
 clear hF hW
 go_enter Try.func70, Try.ntmps70
 go_upto_region 2 with fail
 rw [HW.out]
 clear HW
 go_upto_region 8 with (first | (go_at_call 89; ((with_reducible refine (CA.out _ HF.out.b).mono ?_); rintro e w3 ⟨A1, c1, rfl, hc1, C1, b3⟩; have HF := Lib.hid (HF.out.next b3); obtain ⟨b, off, rfl, hb, hq⟩ := tkp_all C1 (by simp); obtain ⟨A0, n0, cp0, q00, q01, q02, q03⟩ : ∃ A0 n0 cp0, w3.cell? ⟨b, off, none⟩ = some (.int .i64 kx) /\ w3.cell? ⟨b, off + 1, none⟩ = some (.string sx) /\ w3.cell? ⟨b, off + 2, none⟩ = some (.int .i64 nx) /\ w3.cell? ⟨b, off + 3, none⟩ = some (.slice A0 n0 cp0) := hq 0 (by simp); obtain ⟨p0, p1, p2, p3⟩ : w3.cell? ⟨w.heap.size, 0, none⟩ = some (.int .i64 3) /\ w3.cell? ⟨w.heap.size, 1, none⟩ = some (.string tx) /\ w3.cell? ⟨w.heap.size, 2, none⟩ = some (.int .i64 num) /\ w3.cell? ⟨w.heap.size, 3, none⟩ = some (.slice A n cap) := four_cells HF.out.p; clear b3 hq C1)) | (go_at_call 43; ((with_reducible refine (CN.out _ _ _ _).mono ?_); rintro e w4 ⟨rfl, b4⟩; have HF := Lib.hid (HF.out.next b4); have q00 := (b4.cell (p := ⟨b, off, none⟩) hb).trans q00; have q01 := (b4.cell (p := ⟨b, off + 1, none⟩) hb).trans q01; have q02 := (b4.cell (p := ⟨b, off + 2, none⟩) hb).trans q02; have q03 := (b4.cell (p := ⟨b, off + 3, none⟩) hb).trans q03; have hb := Nat.lt_of_lt_of_le hb b4.size; obtain ⟨p0, p1, p2, p3⟩ : w4.cell? ⟨w.heap.size, 0, none⟩ = some (.int .i64 3) /\ w4.cell? ⟨w.heap.size, 1, none⟩ = some (.string tx) /\ w4.cell? ⟨w.heap.size, 2, none⟩ = some (.int .i64 num) /\ w4.cell? ⟨w.heap.size, 3, none⟩ = some (.slice A n cap) := four_cells HF.out.p; clear b4)))
 have k7 := heap_alloc_new w4 (itO 0 ⟨#[]⟩ sx 0 0)
 have b7 := (Below.refl w4.heap.size w4).alloc (Nat.le_refl _) (itO 0 ⟨#[]⟩ sx 0 0)
 have hg7 := HF.out.lt
 have hbg := hb
 generalize w4.alloc (itO 0 ⟨#[]⟩ sx 0 0) = w7 at k7 b7 ⊢
 replace HF := Lib.hid (HF.out.next b7)
 replace q00 := (b7.cell (p := ⟨b, off, none⟩) hb).trans q00
 replace q01 := (b7.cell (p := ⟨b, off + 1, none⟩) hb).trans q01
 replace q02 := (b7.cell (p := ⟨b, off + 2, none⟩) hb).trans q02
 replace q03 := (b7.cell (p := ⟨b, off + 3, none⟩) hb).trans q03
 replace hb := Nat.lt_of_lt_of_le hb b7.size
 obtain ⟨p0, p1, p2, p3⟩ : w7.cell? ⟨w.heap.size, 0, none⟩ = some (.int .i64 3) /\ w7.cell? ⟨w.heap.size, 1, none⟩ = some (.string tx) /\ w7.cell? ⟨w.heap.size, 2, none⟩ = some (.int .i64 num) /\ w7.cell? ⟨w.heap.size, 3, none⟩ = some (.slice A n cap) := four_cells HF.out.p
 have HK := Lib.hid k7
 clear k7 b7
 go_upto_region 28 with (go_at_call 52; ((with_reducible refine (CL.out _).mono ?_); rintro e w8 ⟨rfl, b8⟩; have HF := Lib.hid (HF.out.next b8); have HK := Lib.hid (below_block b8 HK.out); have q00 := (b8.cell (p := ⟨b, off, none⟩) hb).trans q00; have q01 := (b8.cell (p := ⟨b, off + 1, none⟩) hb).trans q01; have q02 := (b8.cell (p := ⟨b, off + 2, none⟩) hb).trans q02; have q03 := (b8.cell (p := ⟨b, off + 3, none⟩) hb).trans q03; have hb := Nat.lt_of_lt_of_le hb b8.size; obtain ⟨⟨x0, x1, x2, x3, x4⟩, xz⟩ := five_cells HK.out; obtain ⟨⟨r0, r1, r2, r3, r4⟩, rz⟩ := five_cells HF.out.r; obtain ⟨⟨z0, z1, z2, z3, z4⟩, zz⟩ := five_cells HF.out.z; clear b8))
 have HK := Lib.hid (set5 HK.out (.int .i64 5)).1
 have HF := Lib.hid (HF.out.set hg7 0 (.int .i64 5))
 have q00 := (far_cell (i := 0) (v := .int .i64 5) (o := off) (W := w8) hbg).trans q00
 have q01 := (far_cell (i := 0) (v := .int .i64 5) (o := off + 1) (W := w8) hbg).trans q01
 have q02 := (far_cell (i := 0) (v := .int .i64 5) (o := off + 2) (W := w8) hbg).trans q02
 have q03 := (far_cell (i := 0) (v := .int .i64 5) (o := off + 3) (W := w8) hbg).trans q03
 have hb := Nat.lt_of_lt_of_le hb (Nat.le_of_eq (heap_setCell_size w8 ⟨w4.heap.size, 0, none⟩ (.int .i64 5)).symm)
 generalize w8.setCell ⟨w4.heap.size, 0, none⟩ (.int .i64 5) = w9 at HK HF hb q00 q01 q02 q03 ⊢
 obtain ⟨⟨x0, x1, x2, x3, x4⟩, xz⟩ := five_cells HK.out
 obtain ⟨⟨r0, r1, r2, r3, r4⟩, rz⟩ := five_cells HF.out.r
 obtain ⟨⟨z0, z1, z2, z3, z4⟩, zz⟩ := five_cells HF.out.z
 go_wp2_with fail
 exact bodyPost_ret (v := .tuple #[itV (0, ⟨#[]⟩, ⟨#[]⟩, 0, 0), .bool false]) (by simp [results, Try.results70, go_sem, r0, r1, r2, r3, r4]) rfl ⟨(0, ⟨#[]⟩, ⟨#[]⟩, 0, 0), false, rfl, below_set5 HF.out.b (by omega) _ _ _ _ _, rfl⟩
theorem vitem_el_bad (tx : ByteArray) (num : Int) (A : Option Addr) (n cap : Nat) (w : World) (kx : Int) (sx : ByteArray) (nx : Int) (ky : Int) (sy : ByteArray) (ny : Int) (CA : Hid (∀ W, Below w.heap.size w W -> Calls Try.prog 89 #[prtV (3, tx, num) A n cap] W (ArgT 2 [(kx, sx, nx), (ky, sy, ny)] W))) (CN : Hid (∀ W A n c, Calls Try.prog 43 #[prtV (kx, sx, nx) A n c] W (Bo true W))) (ls : ByteArray) (CL : Hid (∀ W, Calls Try.prog 52 #[prtV (3, tx, num) A n cap] W (Sg ls W))) (eattr : (ls.toList == [97, 116, 116, 114]) = false) (ecounters : (ls.toList == [99, 111, 117, 110, 116, 101, 114, 115]) = false) (ecounter : (ls.toList == [99, 111, 117, 110, 116, 101, 114]) = false) (estring : (ls.toList == [115, 116, 114, 105, 110, 103]) = false) (eelement : (ls.toList == [101, 108, 101, 109, 101, 110, 116]) = true) (hky : (ky != 2) = true) : Calls Try.prog 70 #[prtV (3, tx, num) A n cap] w (ItIs none w) := by
 obtain ⟨W2, hW, hF⟩ : ∃ W2, ((w.alloc (prtO (3, tx, num) A n cap)).alloc (itO 0 ⟨#[]⟩ ⟨#[]⟩ 0 0)).alloc (itO 0 ⟨#[]⟩ ⟨#[]⟩ 0 0) = W2 /\ ItF w W2 (3, tx, num) A n cap := ⟨_, rfl, ItF.start w _ A n cap⟩
 have HW := Lib.hid hW
 have HF := Lib.hid hF
 obtain ⟨p0, p1, p2, p3⟩ : W2.cell? ⟨w.heap.size, 0, none⟩ = some (.int .i64 3) /\ W2.cell? ⟨w.heap.size, 1, none⟩ = some (.string tx) /\ W2.cell? ⟨w.heap.size, 2, none⟩ = some (.int .i64 num) /\ W2.cell? ⟨w.heap.size, 3, none⟩ = some (.slice A n cap) := four_cells hF.p
 clear hF hW
 go_enter Try.func70, Try.ntmps70
 go_upto_region 2 with fail
 rw [HW.out]
 clear HW
 go_upto_region 8 with (first | (go_at_call 89; ((with_reducible refine (CA.out _ HF.out.b).mono ?_); rintro e w3 ⟨A1, c1, rfl, hc1, C1, b3⟩; have HF := Lib.hid (HF.out.next b3); obtain ⟨b, off, rfl, hb, hq⟩ := tkp_all C1 (by simp); obtain ⟨A0, n0, cp0, q00, q01, q02, q03⟩ : ∃ A0 n0 cp0, w3.cell? ⟨b, off, none⟩ = some (.int .i64 kx) /\ w3.cell? ⟨b, off + 1, none⟩ = some (.string sx) /\ w3.cell? ⟨b, off + 2, none⟩ = some (.int .i64 nx) /\ w3.cell? ⟨b, off + 3, none⟩ = some (.slice A0 n0 cp0) := hq 0 (by simp); obtain ⟨A1, n1, cp1, q10, q11, q12, q13⟩ : ∃ A1 n1 cp1, w3.cell? ⟨b, off + 4, none⟩ = some (.int .i64 ky) /\ w3.cell? ⟨b, off + 4 + 1, none⟩ = some (.string sy) /\ w3.cell? ⟨b, off + 4 + 2, none⟩ = some (.int .i64 ny) /\ w3.cell? ⟨b, off + 4 + 3, none⟩ = some (.slice A1 n1 cp1) := hq 1 (by simp); obtain ⟨p0, p1, p2, p3⟩ : w3.cell? ⟨w.heap.size, 0, none⟩ = some (.int .i64 3) /\ w3.cell? ⟨w.heap.size, 1, none⟩ = some (.string tx) /\ w3.cell? ⟨w.heap.size, 2, none⟩ = some (.int .i64 num) /\ w3.cell? ⟨w.heap.size, 3, none⟩ = some (.slice A n cap) := four_cells HF.out.p; clear b3 hq C1)) | (go_at_call 43; ((with_reducible refine (CN.out _ _ _ _).mono ?_); rintro e w4 ⟨rfl, b4⟩; have HF := Lib.hid (HF.out.next b4); have q00 := (b4.cell (p := ⟨b, off, none⟩) hb).trans q00; have q01 := (b4.cell (p := ⟨b, off + 1, none⟩) hb).trans q01; have q02 := (b4.cell (p := ⟨b, off + 2, none⟩) hb).trans q02; have q03 := (b4.cell (p := ⟨b, off + 3, none⟩) hb).trans q03; have q10 := (b4.cell (p := ⟨b, off + 4, none⟩) hb).trans q10; have q11 := (b4.cell (p := ⟨b, off + 4 + 1, none⟩) hb).trans q11; have q12 := (b4.cell (p := ⟨b, off + 4 + 2, none⟩) hb).trans q12; have q13 := (b4.cell (p := ⟨b, off + 4 + 3, none⟩) hb).trans q13; have hb := Nat.lt_of_lt_of_le hb b4.size; obtain ⟨p0, p1, p2, p3⟩ : w4.cell? ⟨w.heap.size, 0, none⟩ = some (.int .i64 3) /\ w4.cell? ⟨w.heap.size, 1, none⟩ = some (.string tx) /\ w4.cell? ⟨w.heap.size, 2, none⟩ = some (.int .i64 num) /\ w4.cell? ⟨w.heap.size, 3, none⟩ = some (.slice A n cap) := four_cells HF.out.p; clear b4)))
 have k7 := heap_alloc_new w4 (itO 0 ⟨#[]⟩ sx 0 0)
 have b7 := (Below.refl w4.heap.size w4).alloc (Nat.le_refl _) (itO 0 ⟨#[]⟩ sx 0 0)
 have hg7 := HF.out.lt
 have hbg := hb
 generalize w4.alloc (itO 0 ⟨#[]⟩ sx 0 0) = w7 at k7 b7 ⊢
 replace HF := Lib.hid (HF.out.next b7)
 replace q00 := (b7.cell (p := ⟨b, off, none⟩) hb).trans q00
 replace q01 := (b7.cell (p := ⟨b, off + 1, none⟩) hb).trans q01
 replace q02 := (b7.cell (p := ⟨b, off + 2, none⟩) hb).trans q02
 replace q03 := (b7.cell (p := ⟨b, off + 3, none⟩) hb).trans q03
 replace q10 := (b7.cell (p := ⟨b, off + 4, none⟩) hb).trans q10
 replace q11 := (b7.cell (p := ⟨b, off + 4 + 1, none⟩) hb).trans q11
 replace q12 := (b7.cell (p := ⟨b, off + 4 + 2, none⟩) hb).trans q12
 replace q13 := (b7.cell (p := ⟨b, off + 4 + 3, none⟩) hb).trans q13
 replace hb := Nat.lt_of_lt_of_le hb b7.size
 obtain ⟨p0, p1, p2, p3⟩ : w7.cell? ⟨w.heap.size, 0, none⟩ = some (.int .i64 3) /\ w7.cell? ⟨w.heap.size, 1, none⟩ = some (.string tx) /\ w7.cell? ⟨w.heap.size, 2, none⟩ = some (.int .i64 num) /\ w7.cell? ⟨w.heap.size, 3, none⟩ = some (.slice A n cap) := four_cells HF.out.p
 have HK := Lib.hid k7
 clear k7 b7
 go_upto_region 28 with (go_at_call 52; ((with_reducible refine (CL.out _).mono ?_); rintro e w8 ⟨rfl, b8⟩; have HF := Lib.hid (HF.out.next b8); have HK := Lib.hid (below_block b8 HK.out); have q00 := (b8.cell (p := ⟨b, off, none⟩) hb).trans q00; have q01 := (b8.cell (p := ⟨b, off + 1, none⟩) hb).trans q01; have q02 := (b8.cell (p := ⟨b, off + 2, none⟩) hb).trans q02; have q03 := (b8.cell (p := ⟨b, off + 3, none⟩) hb).trans q03; have q10 := (b8.cell (p := ⟨b, off + 4, none⟩) hb).trans q10; have q11 := (b8.cell (p := ⟨b, off + 4 + 1, none⟩) hb).trans q11; have q12 := (b8.cell (p := ⟨b, off + 4 + 2, none⟩) hb).trans q12; have q13 := (b8.cell (p := ⟨b, off + 4 + 3, none⟩) hb).trans q13; have hb := Nat.lt_of_lt_of_le hb b8.size; obtain ⟨⟨x0, x1, x2, x3, x4⟩, xz⟩ := five_cells HK.out; obtain ⟨⟨r0, r1, r2, r3, r4⟩, rz⟩ := five_cells HF.out.r; obtain ⟨⟨z0, z1, z2, z3, z4⟩, zz⟩ := five_cells HF.out.z; clear b8))
 have HK := Lib.hid (set5 HK.out (.int .i64 5)).1
 have HF := Lib.hid (HF.out.set hg7 0 (.int .i64 5))
 have q00 := (far_cell (i := 0) (v := .int .i64 5) (o := off) (W := w8) hbg).trans q00
 have q01 := (far_cell (i := 0) (v := .int .i64 5) (o := off + 1) (W := w8) hbg).trans q01
 have q02 := (far_cell (i := 0) (v := .int .i64 5) (o := off + 2) (W := w8) hbg).trans q02
 have q03 := (far_cell (i := 0) (v := .int .i64 5) (o := off + 3) (W := w8) hbg).trans q03
 have q10 := (far_cell (i := 0) (v := .int .i64 5) (o := off + 4) (W := w8) hbg).trans q10
 have q11 := (far_cell (i := 0) (v := .int .i64 5) (o := off + 4 + 1) (W := w8) hbg).trans q11
 have q12 := (far_cell (i := 0) (v := .int .i64 5) (o := off + 4 + 2) (W := w8) hbg).trans q12
 have q13 := (far_cell (i := 0) (v := .int .i64 5) (o := off + 4 + 3) (W := w8) hbg).trans q13
 have hb := Nat.lt_of_lt_of_le hb (Nat.le_of_eq (heap_setCell_size w8 ⟨w4.heap.size, 0, none⟩ (.int .i64 5)).symm)
 generalize w8.setCell ⟨w4.heap.size, 0, none⟩ (.int .i64 5) = w9 at HK HF hb q00 q01 q02 q03 q10 q11 q12 q13 ⊢
 obtain ⟨⟨x0, x1, x2, x3, x4⟩, xz⟩ := five_cells HK.out
 obtain ⟨⟨r0, r1, r2, r3, r4⟩, rz⟩ := five_cells HF.out.r
 obtain ⟨⟨z0, z1, z2, z3, z4⟩, zz⟩ := five_cells HF.out.z
 go_wp2_with fail
 exact bodyPost_ret (v := .tuple #[itV (0, ⟨#[]⟩, ⟨#[]⟩, 0, 0), .bool false]) (by simp [results, Try.results70, go_sem, r0, r1, r2, r3, r4]) rfl ⟨(0, ⟨#[]⟩, ⟨#[]⟩, 0, 0), false, rfl, below_set5 HF.out.b (by omega) _ _ _ _ _, rfl⟩
theorem vitem_el2 (tx : ByteArray) (num : Int) (A : Option Addr) (n cap : Nat) (w : World) (kx : Int) (sx : ByteArray) (nx : Int) (ky : Int) (sy : ByteArray) (ny : Int) (CA : Hid (∀ W, Below w.heap.size w W -> Calls Try.prog 89 #[prtV (3, tx, num) A n cap] W (ArgT 2 [(kx, sx, nx), (ky, sy, ny)] W))) (CN : Hid (∀ W A n c, Calls Try.prog 43 #[prtV (kx, sx, nx) A n c] W (Bo true W))) (ls : ByteArray) (CL : Hid (∀ W, Calls Try.prog 52 #[prtV (3, tx, num) A n cap] W (Sg ls W))) (eattr : (ls.toList == [97, 116, 116, 114]) = false) (ecounters : (ls.toList == [99, 111, 117, 110, 116, 101, 114, 115]) = false) (ecounter : (ls.toList == [99, 111, 117, 110, 116, 101, 114]) = false) (estring : (ls.toList == [115, 116, 114, 105, 110, 103]) = false) (eelement : (ls.toList == [101, 108, 101, 109, 101, 110, 116]) = true) (hky : (ky != 2) = false) (lz : ByteArray) (iz : Int) (hi0 : -1 <= iz) (hi1 : iz <= 100) (hiz : 0 < iz + 1) (CZ : Hid (∀ W A n c, Calls Try.prog 52 #[prtV (ky, sy, ny) A n c] W (Sg lz W))) (CT : Hid (∀ W A, Ss W A whiNames -> Calls Try.prog 49 #[.slice A 4 4, .string lz] W (Nu iz W))) : Calls Try.prog 70 #[prtV (3, tx, num) A n cap] w (ItIs (some (5, ⟨#[]⟩, sx, 0, iz + 1)) w) := by
 obtain ⟨W2, hW, hF⟩ : ∃ W2, ((w.alloc (prtO (3, tx, num) A n cap)).alloc (itO 0 ⟨#[]⟩ ⟨#[]⟩ 0 0)).alloc (itO 0 ⟨#[]⟩ ⟨#[]⟩ 0 0) = W2 /\ ItF w W2 (3, tx, num) A n cap := ⟨_, rfl, ItF.start w _ A n cap⟩
 have HW := Lib.hid hW
 have HF := Lib.hid hF
 obtain ⟨p0, p1, p2, p3⟩ : W2.cell? ⟨w.heap.size, 0, none⟩ = some (.int .i64 3) /\ W2.cell? ⟨w.heap.size, 1, none⟩ = some (.string tx) /\ W2.cell? ⟨w.heap.size, 2, none⟩ = some (.int .i64 num) /\ W2.cell? ⟨w.heap.size, 3, none⟩ = some (.slice A n cap) := four_cells hF.p
 clear hF hW
 go_enter Try.func70, Try.ntmps70
 go_upto_region 2 with fail
 rw [HW.out]
 clear HW
 go_upto_region 8 with (first | (go_at_call 89; ((with_reducible refine (CA.out _ HF.out.b).mono ?_); rintro e w3 ⟨A1, c1, rfl, hc1, C1, b3⟩; have HF := Lib.hid (HF.out.next b3); obtain ⟨b, off, rfl, hb, hq⟩ := tkp_all C1 (by simp); obtain ⟨A0, n0, cp0, q00, q01, q02, q03⟩ : ∃ A0 n0 cp0, w3.cell? ⟨b, off, none⟩ = some (.int .i64 kx) /\ w3.cell? ⟨b, off + 1, none⟩ = some (.string sx) /\ w3.cell? ⟨b, off + 2, none⟩ = some (.int .i64 nx) /\ w3.cell? ⟨b, off + 3, none⟩ = some (.slice A0 n0 cp0) := hq 0 (by simp); obtain ⟨A1, n1, cp1, q10, q11, q12, q13⟩ : ∃ A1 n1 cp1, w3.cell? ⟨b, off + 4, none⟩ = some (.int .i64 ky) /\ w3.cell? ⟨b, off + 4 + 1, none⟩ = some (.string sy) /\ w3.cell? ⟨b, off + 4 + 2, none⟩ = some (.int .i64 ny) /\ w3.cell? ⟨b, off + 4 + 3, none⟩ = some (.slice A1 n1 cp1) := hq 1 (by simp); obtain ⟨p0, p1, p2, p3⟩ : w3.cell? ⟨w.heap.size, 0, none⟩ = some (.int .i64 3) /\ w3.cell? ⟨w.heap.size, 1, none⟩ = some (.string tx) /\ w3.cell? ⟨w.heap.size, 2, none⟩ = some (.int .i64 num) /\ w3.cell? ⟨w.heap.size, 3, none⟩ = some (.slice A n cap) := four_cells HF.out.p; clear b3 hq C1)) | (go_at_call 43; ((with_reducible refine (CN.out _ _ _ _).mono ?_); rintro e w4 ⟨rfl, b4⟩; have HF := Lib.hid (HF.out.next b4); have q00 := (b4.cell (p := ⟨b, off, none⟩) hb).trans q00; have q01 := (b4.cell (p := ⟨b, off + 1, none⟩) hb).trans q01; have q02 := (b4.cell (p := ⟨b, off + 2, none⟩) hb).trans q02; have q03 := (b4.cell (p := ⟨b, off + 3, none⟩) hb).trans q03; have q10 := (b4.cell (p := ⟨b, off + 4, none⟩) hb).trans q10; have q11 := (b4.cell (p := ⟨b, off + 4 + 1, none⟩) hb).trans q11; have q12 := (b4.cell (p := ⟨b, off + 4 + 2, none⟩) hb).trans q12; have q13 := (b4.cell (p := ⟨b, off + 4 + 3, none⟩) hb).trans q13; have hb := Nat.lt_of_lt_of_le hb b4.size; obtain ⟨p0, p1, p2, p3⟩ : w4.cell? ⟨w.heap.size, 0, none⟩ = some (.int .i64 3) /\ w4.cell? ⟨w.heap.size, 1, none⟩ = some (.string tx) /\ w4.cell? ⟨w.heap.size, 2, none⟩ = some (.int .i64 num) /\ w4.cell? ⟨w.heap.size, 3, none⟩ = some (.slice A n cap) := four_cells HF.out.p; clear b4)))
 have k7 := heap_alloc_new w4 (itO 0 ⟨#[]⟩ sx 0 0)
 have b7 := (Below.refl w4.heap.size w4).alloc (Nat.le_refl _) (itO 0 ⟨#[]⟩ sx 0 0)
 have hg7 := HF.out.lt
 have hbg := hb
 generalize w4.alloc (itO 0 ⟨#[]⟩ sx 0 0) = w7 at k7 b7 ⊢
 replace HF := Lib.hid (HF.out.next b7)
 replace q00 := (b7.cell (p := ⟨b, off, none⟩) hb).trans q00
 replace q01 := (b7.cell (p := ⟨b, off + 1, none⟩) hb).trans q01
 replace q02 := (b7.cell (p := ⟨b, off + 2, none⟩) hb).trans q02
 replace q03 := (b7.cell (p := ⟨b, off + 3, none⟩) hb).trans q03
 replace q10 := (b7.cell (p := ⟨b, off + 4, none⟩) hb).trans q10
 replace q11 := (b7.cell (p := ⟨b, off + 4 + 1, none⟩) hb).trans q11
 replace q12 := (b7.cell (p := ⟨b, off + 4 + 2, none⟩) hb).trans q12
 replace q13 := (b7.cell (p := ⟨b, off + 4 + 3, none⟩) hb).trans q13
 replace hb := Nat.lt_of_lt_of_le hb b7.size
 obtain ⟨p0, p1, p2, p3⟩ : w7.cell? ⟨w.heap.size, 0, none⟩ = some (.int .i64 3) /\ w7.cell? ⟨w.heap.size, 1, none⟩ = some (.string tx) /\ w7.cell? ⟨w.heap.size, 2, none⟩ = some (.int .i64 num) /\ w7.cell? ⟨w.heap.size, 3, none⟩ = some (.slice A n cap) := four_cells HF.out.p
 have HK := Lib.hid k7
 clear k7 b7
 go_upto_region 28 with (go_at_call 52; ((with_reducible refine (CL.out _).mono ?_); rintro e w8 ⟨rfl, b8⟩; have HF := Lib.hid (HF.out.next b8); have HK := Lib.hid (below_block b8 HK.out); have q00 := (b8.cell (p := ⟨b, off, none⟩) hb).trans q00; have q01 := (b8.cell (p := ⟨b, off + 1, none⟩) hb).trans q01; have q02 := (b8.cell (p := ⟨b, off + 2, none⟩) hb).trans q02; have q03 := (b8.cell (p := ⟨b, off + 3, none⟩) hb).trans q03; have q10 := (b8.cell (p := ⟨b, off + 4, none⟩) hb).trans q10; have q11 := (b8.cell (p := ⟨b, off + 4 + 1, none⟩) hb).trans q11; have q12 := (b8.cell (p := ⟨b, off + 4 + 2, none⟩) hb).trans q12; have q13 := (b8.cell (p := ⟨b, off + 4 + 3, none⟩) hb).trans q13; have hb := Nat.lt_of_lt_of_le hb b8.size; obtain ⟨⟨x0, x1, x2, x3, x4⟩, xz⟩ := five_cells HK.out; obtain ⟨⟨r0, r1, r2, r3, r4⟩, rz⟩ := five_cells HF.out.r; obtain ⟨⟨z0, z1, z2, z3, z4⟩, zz⟩ := five_cells HF.out.z; clear b8))
 have HK := Lib.hid (set5 HK.out (.int .i64 5)).1
 have HF := Lib.hid (HF.out.set hg7 0 (.int .i64 5))
 have q00 := (far_cell (i := 0) (v := .int .i64 5) (o := off) (W := w8) hbg).trans q00
 have q01 := (far_cell (i := 0) (v := .int .i64 5) (o := off + 1) (W := w8) hbg).trans q01
 have q02 := (far_cell (i := 0) (v := .int .i64 5) (o := off + 2) (W := w8) hbg).trans q02
 have q03 := (far_cell (i := 0) (v := .int .i64 5) (o := off + 3) (W := w8) hbg).trans q03
 have q10 := (far_cell (i := 0) (v := .int .i64 5) (o := off + 4) (W := w8) hbg).trans q10
 have q11 := (far_cell (i := 0) (v := .int .i64 5) (o := off + 4 + 1) (W := w8) hbg).trans q11
 have q12 := (far_cell (i := 0) (v := .int .i64 5) (o := off + 4 + 2) (W := w8) hbg).trans q12
 have q13 := (far_cell (i := 0) (v := .int .i64 5) (o := off + 4 + 3) (W := w8) hbg).trans q13
 have hb := Nat.lt_of_lt_of_le hb (Nat.le_of_eq (heap_setCell_size w8 ⟨w4.heap.size, 0, none⟩ (.int .i64 5)).symm)
 generalize w8.setCell ⟨w4.heap.size, 0, none⟩ (.int .i64 5) = w9 at HK HF hb q00 q01 q02 q03 q10 q11 q12 q13 ⊢
 obtain ⟨⟨x0, x1, x2, x3, x4⟩, xz⟩ := five_cells HK.out
 obtain ⟨⟨r0, r1, r2, r3, r4⟩, rz⟩ := five_cells HF.out.r
 obtain ⟨⟨z0, z1, z2, z3, z4⟩, zz⟩ := five_cells HF.out.z
 go_upto_region 32 with fail
 have HK := Lib.hid (set5 HK.out (.int .i64 1)).2.2.2
 have HF := Lib.hid (HF.out.set hg7 4 (.int .i64 1))
 have q00 := (far_cell (i := 4) (v := .int .i64 1) (o := off) (W := w9) hbg).trans q00
 have q01 := (far_cell (i := 4) (v := .int .i64 1) (o := off + 1) (W := w9) hbg).trans q01
 have q02 := (far_cell (i := 4) (v := .int .i64 1) (o := off + 2) (W := w9) hbg).trans q02
 have q03 := (far_cell (i := 4) (v := .int .i64 1) (o := off + 3) (W := w9) hbg).trans q03
 have q10 := (far_cell (i := 4) (v := .int .i64 1) (o := off + 4) (W := w9) hbg).trans q10
 have q11 := (far_cell (i := 4) (v := .int .i64 1) (o := off + 4 + 1) (W := w9) hbg).trans q11
 have q12 := (far_cell (i := 4) (v := .int .i64 1) (o := off + 4 + 2) (W := w9) hbg).trans q12
 have q13 := (far_cell (i := 4) (v := .int .i64 1) (o := off + 4 + 3) (W := w9) hbg).trans q13
 have hb := Nat.lt_of_lt_of_le hb (Nat.le_of_eq (heap_setCell_size w9 ⟨w4.heap.size, 4, none⟩ (.int .i64 1)).symm)
 generalize w9.setCell ⟨w4.heap.size, 4, none⟩ (.int .i64 1) = w10 at HK HF hb q00 q01 q02 q03 q10 q11 q12 q13 ⊢
 obtain ⟨⟨x0, x1, x2, x3, x4⟩, xz⟩ := five_cells HK.out
 obtain ⟨⟨r0, r1, r2, r3, r4⟩, rz⟩ := five_cells HF.out.r
 obtain ⟨⟨z0, z1, z2, z3, z4⟩, zz⟩ := five_cells HF.out.z
 go_upto_region 34 with (first | (go_at_call 52; ((with_reducible refine (CZ.out _ _ _ _).mono ?_); rintro e w20 ⟨rfl, b20⟩; have b21 := below_lit b20; have HS := Lib.hid (ss_lit_next (l := whiNames) (T := 9) b20); have HF := Lib.hid (HF.out.next b21); have HK := Lib.hid (below_block b21 HK.out); have q00 := (b21.cell (p := ⟨b, off, none⟩) hb).trans q00; have q01 := (b21.cell (p := ⟨b, off + 1, none⟩) hb).trans q01; have q02 := (b21.cell (p := ⟨b, off + 2, none⟩) hb).trans q02; have q03 := (b21.cell (p := ⟨b, off + 3, none⟩) hb).trans q03; have q10 := (b21.cell (p := ⟨b, off + 4, none⟩) hb).trans q10; have q11 := (b21.cell (p := ⟨b, off + 4 + 1, none⟩) hb).trans q11; have q12 := (b21.cell (p := ⟨b, off + 4 + 2, none⟩) hb).trans q12; have q13 := (b21.cell (p := ⟨b, off + 4 + 3, none⟩) hb).trans q13; have hb := Nat.lt_of_lt_of_le hb b21.size; obtain ⟨⟨x0, x1, x2, x3, x4⟩, xz⟩ := five_cells HK.out; obtain ⟨⟨r0, r1, r2, r3, r4⟩, rz⟩ := five_cells HF.out.r; obtain ⟨⟨z0, z1, z2, z3, z4⟩, zz⟩ := five_cells HF.out.z; clear b20 b21)) | (go_at_call 49; ((with_reducible refine (CT.out _ _ HS.out).mono ?_); rintro e w22 ⟨rfl, b22⟩; have HF := Lib.hid (HF.out.next b22); have HK := Lib.hid (below_block b22 HK.out); have q00 := (b22.cell (p := ⟨b, off, none⟩) hb).trans q00; have q01 := (b22.cell (p := ⟨b, off + 1, none⟩) hb).trans q01; have q02 := (b22.cell (p := ⟨b, off + 2, none⟩) hb).trans q02; have q03 := (b22.cell (p := ⟨b, off + 3, none⟩) hb).trans q03; have q10 := (b22.cell (p := ⟨b, off + 4, none⟩) hb).trans q10; have q11 := (b22.cell (p := ⟨b, off + 4 + 1, none⟩) hb).trans q11; have q12 := (b22.cell (p := ⟨b, off + 4 + 2, none⟩) hb).trans q12; have q13 := (b22.cell (p := ⟨b, off + 4 + 3, none⟩) hb).trans q13; have hb := Nat.lt_of_lt_of_le hb b22.size; obtain ⟨⟨x0, x1, x2, x3, x4⟩, xz⟩ := five_cells HK.out; obtain ⟨⟨r0, r1, r2, r3, r4⟩, rz⟩ := five_cells HF.out.r; obtain ⟨⟨z0, z1, z2, z3, z4⟩, zz⟩ := five_cells HF.out.z; clear b22)))
 have HK := Lib.hid (set5 HK.out (.int .i64 (iz + 1))).2.2.2
 have HF := Lib.hid (HF.out.set hg7 4 (.int .i64 (iz + 1)))
 have q00 := (far_cell (i := 4) (v := .int .i64 (iz + 1)) (o := off) (W := w22) hbg).trans q00
 have q01 := (far_cell (i := 4) (v := .int .i64 (iz + 1)) (o := off + 1) (W := w22) hbg).trans q01
 have q02 := (far_cell (i := 4) (v := .int .i64 (iz + 1)) (o := off + 2) (W := w22) hbg).trans q02
 have q03 := (far_cell (i := 4) (v := .int .i64 (iz + 1)) (o := off + 3) (W := w22) hbg).trans q03
 have q10 := (far_cell (i := 4) (v := .int .i64 (iz + 1)) (o := off + 4) (W := w22) hbg).trans q10
 have q11 := (far_cell (i := 4) (v := .int .i64 (iz + 1)) (o := off + 4 + 1) (W := w22) hbg).trans q11
 have q12 := (far_cell (i := 4) (v := .int .i64 (iz + 1)) (o := off + 4 + 2) (W := w22) hbg).trans q12
 have q13 := (far_cell (i := 4) (v := .int .i64 (iz + 1)) (o := off + 4 + 3) (W := w22) hbg).trans q13
 have hb := Nat.lt_of_lt_of_le hb (Nat.le_of_eq (heap_setCell_size w22 ⟨w4.heap.size, 4, none⟩ (.int .i64 (iz + 1))).symm)
 generalize w22.setCell ⟨w4.heap.size, 4, none⟩ (.int .i64 (iz + 1)) = w23 at HK HF hb q00 q01 q02 q03 q10 q11 q12 q13 ⊢
 obtain ⟨⟨x0, x1, x2, x3, x4⟩, xz⟩ := five_cells HK.out
 obtain ⟨⟨r0, r1, r2, r3, r4⟩, rz⟩ := five_cells HF.out.r
 obtain ⟨⟨z0, z1, z2, z3, z4⟩, zz⟩ := five_cells HF.out.z
 go_wp2_with fail
 go_region
 all_goals (go_wp2_with fail)
 all_goals exact bodyPost_ret (v := .tuple #[itV (5, ⟨#[]⟩, sx, 0, iz + 1), .bool true]) (by simp [results, Try.results70, go_sem, r0, r1, r2, r3, r4]) rfl ⟨(5, ⟨#[]⟩, sx, 0, iz + 1), true, rfl, below_set5 HF.out.b.drew (by omega) _ _ _ _ _, rfl⟩
theorem vitem_el2n (tx : ByteArray) (num : Int) (A : Option Addr) (n cap : Nat) (w : World) (kx : Int) (sx : ByteArray) (nx : Int) (ky : Int) (sy : ByteArray) (ny : Int) (CA : Hid (∀ W, Below w.heap.size w W -> Calls Try.prog 89 #[prtV (3, tx, num) A n cap] W (ArgT 2 [(kx, sx, nx), (ky, sy, ny)] W))) (CN : Hid (∀ W A n c, Calls Try.prog 43 #[prtV (kx, sx, nx) A n c] W (Bo true W))) (ls : ByteArray) (CL : Hid (∀ W, Calls Try.prog 52 #[prtV (3, tx, num) A n cap] W (Sg ls W))) (eattr : (ls.toList == [97, 116, 116, 114]) = false) (ecounters : (ls.toList == [99, 111, 117, 110, 116, 101, 114, 115]) = false) (ecounter : (ls.toList == [99, 111, 117, 110, 116, 101, 114]) = false) (estring : (ls.toList == [115, 116, 114, 105, 110, 103]) = false) (eelement : (ls.toList == [101, 108, 101, 109, 101, 110, 116]) = true) (hky : (ky != 2) = false) (lz : ByteArray) (iz : Int) (hi0 : -1 <= iz) (hi1 : iz <= 100) (hiz : iz + 1 <= 0) (CZ : Hid (∀ W A n c, Calls Try.prog 52 #[prtV (ky, sy, ny) A n c] W (Sg lz W))) (CT : Hid (∀ W A, Ss W A whiNames -> Calls Try.prog 49 #[.slice A 4 4, .string lz] W (Nu iz W))) : Calls Try.prog 70 #[prtV (3, tx, num) A n cap] w (ItIs none w) := by
 obtain ⟨W2, hW, hF⟩ : ∃ W2, ((w.alloc (prtO (3, tx, num) A n cap)).alloc (itO 0 ⟨#[]⟩ ⟨#[]⟩ 0 0)).alloc (itO 0 ⟨#[]⟩ ⟨#[]⟩ 0 0) = W2 /\ ItF w W2 (3, tx, num) A n cap := ⟨_, rfl, ItF.start w _ A n cap⟩
 have HW := Lib.hid hW
 have HF := Lib.hid hF
 obtain ⟨p0, p1, p2, p3⟩ : W2.cell? ⟨w.heap.size, 0, none⟩ = some (.int .i64 3) /\ W2.cell? ⟨w.heap.size, 1, none⟩ = some (.string tx) /\ W2.cell? ⟨w.heap.size, 2, none⟩ = some (.int .i64 num) /\ W2.cell? ⟨w.heap.size, 3, none⟩ = some (.slice A n cap) := four_cells hF.p
 clear hF hW
 go_enter Try.func70, Try.ntmps70
 go_upto_region 2 with fail
 rw [HW.out]
 clear HW
 go_upto_region 8 with (first | (go_at_call 89; ((with_reducible refine (CA.out _ HF.out.b).mono ?_); rintro e w3 ⟨A1, c1, rfl, hc1, C1, b3⟩; have HF := Lib.hid (HF.out.next b3); obtain ⟨b, off, rfl, hb, hq⟩ := tkp_all C1 (by simp); obtain ⟨A0, n0, cp0, q00, q01, q02, q03⟩ : ∃ A0 n0 cp0, w3.cell? ⟨b, off, none⟩ = some (.int .i64 kx) /\ w3.cell? ⟨b, off + 1, none⟩ = some (.string sx) /\ w3.cell? ⟨b, off + 2, none⟩ = some (.int .i64 nx) /\ w3.cell? ⟨b, off + 3, none⟩ = some (.slice A0 n0 cp0) := hq 0 (by simp); obtain ⟨A1, n1, cp1, q10, q11, q12, q13⟩ : ∃ A1 n1 cp1, w3.cell? ⟨b, off + 4, none⟩ = some (.int .i64 ky) /\ w3.cell? ⟨b, off + 4 + 1, none⟩ = some (.string sy) /\ w3.cell? ⟨b, off + 4 + 2, none⟩ = some (.int .i64 ny) /\ w3.cell? ⟨b, off + 4 + 3, none⟩ = some (.slice A1 n1 cp1) := hq 1 (by simp); obtain ⟨p0, p1, p2, p3⟩ : w3.cell? ⟨w.heap.size, 0, none⟩ = some (.int .i64 3) /\ w3.cell? ⟨w.heap.size, 1, none⟩ = some (.string tx) /\ w3.cell? ⟨w.heap.size, 2, none⟩ = some (.int .i64 num) /\ w3.cell? ⟨w.heap.size, 3, none⟩ = some (.slice A n cap) := four_cells HF.out.p; clear b3 hq C1)) | (go_at_call 43; ((with_reducible refine (CN.out _ _ _ _).mono ?_); rintro e w4 ⟨rfl, b4⟩; have HF := Lib.hid (HF.out.next b4); have q00 := (b4.cell (p := ⟨b, off, none⟩) hb).trans q00; have q01 := (b4.cell (p := ⟨b, off + 1, none⟩) hb).trans q01; have q02 := (b4.cell (p := ⟨b, off + 2, none⟩) hb).trans q02; have q03 := (b4.cell (p := ⟨b, off + 3, none⟩) hb).trans q03; have q10 := (b4.cell (p := ⟨b, off + 4, none⟩) hb).trans q10; have q11 := (b4.cell (p := ⟨b, off + 4 + 1, none⟩) hb).trans q11; have q12 := (b4.cell (p := ⟨b, off + 4 + 2, none⟩) hb).trans q12; have q13 := (b4.cell (p := ⟨b, off + 4 + 3, none⟩) hb).trans q13; have hb := Nat.lt_of_lt_of_le hb b4.size; obtain ⟨p0, p1, p2, p3⟩ : w4.cell? ⟨w.heap.size, 0, none⟩ = some (.int .i64 3) /\ w4.cell? ⟨w.heap.size, 1, none⟩ = some (.string tx) /\ w4.cell? ⟨w.heap.size, 2, none⟩ = some (.int .i64 num) /\ w4.cell? ⟨w.heap.size, 3, none⟩ = some (.slice A n cap) := four_cells HF.out.p; clear b4)))
 have k7 := heap_alloc_new w4 (itO 0 ⟨#[]⟩ sx 0 0)
 have b7 := (Below.refl w4.heap.size w4).alloc (Nat.le_refl _) (itO 0 ⟨#[]⟩ sx 0 0)
 have hg7 := HF.out.lt
 have hbg := hb
 generalize w4.alloc (itO 0 ⟨#[]⟩ sx 0 0) = w7 at k7 b7 ⊢
 replace HF := Lib.hid (HF.out.next b7)
 replace q00 := (b7.cell (p := ⟨b, off, none⟩) hb).trans q00
 replace q01 := (b7.cell (p := ⟨b, off + 1, none⟩) hb).trans q01
 replace q02 := (b7.cell (p := ⟨b, off + 2, none⟩) hb).trans q02
 replace q03 := (b7.cell (p := ⟨b, off + 3, none⟩) hb).trans q03
 replace q10 := (b7.cell (p := ⟨b, off + 4, none⟩) hb).trans q10
 replace q11 := (b7.cell (p := ⟨b, off + 4 + 1, none⟩) hb).trans q11
 replace q12 := (b7.cell (p := ⟨b, off + 4 + 2, none⟩) hb).trans q12
 replace q13 := (b7.cell (p := ⟨b, off + 4 + 3, none⟩) hb).trans q13
 replace hb := Nat.lt_of_lt_of_le hb b7.size
 obtain ⟨p0, p1, p2, p3⟩ : w7.cell? ⟨w.heap.size, 0, none⟩ = some (.int .i64 3) /\ w7.cell? ⟨w.heap.size, 1, none⟩ = some (.string tx) /\ w7.cell? ⟨w.heap.size, 2, none⟩ = some (.int .i64 num) /\ w7.cell? ⟨w.heap.size, 3, none⟩ = some (.slice A n cap) := four_cells HF.out.p
 have HK := Lib.hid k7
 clear k7 b7
 go_upto_region 28 with (go_at_call 52; ((with_reducible refine (CL.out _).mono ?_); rintro e w8 ⟨rfl, b8⟩; have HF := Lib.hid (HF.out.next b8); have HK := Lib.hid (below_block b8 HK.out); have q00 := (b8.cell (p := ⟨b, off, none⟩) hb).trans q00; have q01 := (b8.cell (p := ⟨b, off + 1, none⟩) hb).trans q01; have q02 := (b8.cell (p := ⟨b, off + 2, none⟩) hb).trans q02; have q03 := (b8.cell (p := ⟨b, off + 3, none⟩) hb).trans q03; have q10 := (b8.cell (p := ⟨b, off + 4, none⟩) hb).trans q10; have q11 := (b8.cell (p := ⟨b, off + 4 + 1, none⟩) hb).trans q11; have q12 := (b8.cell (p := ⟨b, off + 4 + 2, none⟩) hb).trans q12; have q13 := (b8.cell (p := ⟨b, off + 4 + 3, none⟩) hb).trans q13; have hb := Nat.lt_of_lt_of_le hb b8.size; obtain ⟨⟨x0, x1, x2, x3, x4⟩, xz⟩ := five_cells HK.out; obtain ⟨⟨r0, r1, r2, r3, r4⟩, rz⟩ := five_cells HF.out.r; obtain ⟨⟨z0, z1, z2, z3, z4⟩, zz⟩ := five_cells HF.out.z; clear b8))
 have HK := Lib.hid (set5 HK.out (.int .i64 5)).1
 have HF := Lib.hid (HF.out.set hg7 0 (.int .i64 5))
 have q00 := (far_cell (i := 0) (v := .int .i64 5) (o := off) (W := w8) hbg).trans q00
 have q01 := (far_cell (i := 0) (v := .int .i64 5) (o := off + 1) (W := w8) hbg).trans q01
 have q02 := (far_cell (i := 0) (v := .int .i64 5) (o := off + 2) (W := w8) hbg).trans q02
 have q03 := (far_cell (i := 0) (v := .int .i64 5) (o := off + 3) (W := w8) hbg).trans q03
 have q10 := (far_cell (i := 0) (v := .int .i64 5) (o := off + 4) (W := w8) hbg).trans q10
 have q11 := (far_cell (i := 0) (v := .int .i64 5) (o := off + 4 + 1) (W := w8) hbg).trans q11
 have q12 := (far_cell (i := 0) (v := .int .i64 5) (o := off + 4 + 2) (W := w8) hbg).trans q12
 have q13 := (far_cell (i := 0) (v := .int .i64 5) (o := off + 4 + 3) (W := w8) hbg).trans q13
 have hb := Nat.lt_of_lt_of_le hb (Nat.le_of_eq (heap_setCell_size w8 ⟨w4.heap.size, 0, none⟩ (.int .i64 5)).symm)
 generalize w8.setCell ⟨w4.heap.size, 0, none⟩ (.int .i64 5) = w9 at HK HF hb q00 q01 q02 q03 q10 q11 q12 q13 ⊢
 obtain ⟨⟨x0, x1, x2, x3, x4⟩, xz⟩ := five_cells HK.out
 obtain ⟨⟨r0, r1, r2, r3, r4⟩, rz⟩ := five_cells HF.out.r
 obtain ⟨⟨z0, z1, z2, z3, z4⟩, zz⟩ := five_cells HF.out.z
 go_upto_region 32 with fail
 have HK := Lib.hid (set5 HK.out (.int .i64 1)).2.2.2
 have HF := Lib.hid (HF.out.set hg7 4 (.int .i64 1))
 have q00 := (far_cell (i := 4) (v := .int .i64 1) (o := off) (W := w9) hbg).trans q00
 have q01 := (far_cell (i := 4) (v := .int .i64 1) (o := off + 1) (W := w9) hbg).trans q01
 have q02 := (far_cell (i := 4) (v := .int .i64 1) (o := off + 2) (W := w9) hbg).trans q02
 have q03 := (far_cell (i := 4) (v := .int .i64 1) (o := off + 3) (W := w9) hbg).trans q03
 have q10 := (far_cell (i := 4) (v := .int .i64 1) (o := off + 4) (W := w9) hbg).trans q10
 have q11 := (far_cell (i := 4) (v := .int .i64 1) (o := off + 4 + 1) (W := w9) hbg).trans q11
 have q12 := (far_cell (i := 4) (v := .int .i64 1) (o := off + 4 + 2) (W := w9) hbg).trans q12
 have q13 := (far_cell (i := 4) (v := .int .i64 1) (o := off + 4 + 3) (W := w9) hbg).trans q13
 have hb := Nat.lt_of_lt_of_le hb (Nat.le_of_eq (heap_setCell_size w9 ⟨w4.heap.size, 4, none⟩ (.int .i64 1)).symm)
 generalize w9.setCell ⟨w4.heap.size, 4, none⟩ (.int .i64 1) = w10 at HK HF hb q00 q01 q02 q03 q10 q11 q12 q13 ⊢
 obtain ⟨⟨x0, x1, x2, x3, x4⟩, xz⟩ := five_cells HK.out
 obtain ⟨⟨r0, r1, r2, r3, r4⟩, rz⟩ := five_cells HF.out.r
 obtain ⟨⟨z0, z1, z2, z3, z4⟩, zz⟩ := five_cells HF.out.z
 go_upto_region 34 with (first | (go_at_call 52; ((with_reducible refine (CZ.out _ _ _ _).mono ?_); rintro e w20 ⟨rfl, b20⟩; have b21 := below_lit b20; have HS := Lib.hid (ss_lit_next (l := whiNames) (T := 9) b20); have HF := Lib.hid (HF.out.next b21); have HK := Lib.hid (below_block b21 HK.out); have q00 := (b21.cell (p := ⟨b, off, none⟩) hb).trans q00; have q01 := (b21.cell (p := ⟨b, off + 1, none⟩) hb).trans q01; have q02 := (b21.cell (p := ⟨b, off + 2, none⟩) hb).trans q02; have q03 := (b21.cell (p := ⟨b, off + 3, none⟩) hb).trans q03; have q10 := (b21.cell (p := ⟨b, off + 4, none⟩) hb).trans q10; have q11 := (b21.cell (p := ⟨b, off + 4 + 1, none⟩) hb).trans q11; have q12 := (b21.cell (p := ⟨b, off + 4 + 2, none⟩) hb).trans q12; have q13 := (b21.cell (p := ⟨b, off + 4 + 3, none⟩) hb).trans q13; have hb := Nat.lt_of_lt_of_le hb b21.size; obtain ⟨⟨x0, x1, x2, x3, x4⟩, xz⟩ := five_cells HK.out; obtain ⟨⟨r0, r1, r2, r3, r4⟩, rz⟩ := five_cells HF.out.r; obtain ⟨⟨z0, z1, z2, z3, z4⟩, zz⟩ := five_cells HF.out.z; clear b20 b21)) | (go_at_call 49; ((with_reducible refine (CT.out _ _ HS.out).mono ?_); rintro e w22 ⟨rfl, b22⟩; have HF := Lib.hid (HF.out.next b22); have HK := Lib.hid (below_block b22 HK.out); have q00 := (b22.cell (p := ⟨b, off, none⟩) hb).trans q00; have q01 := (b22.cell (p := ⟨b, off + 1, none⟩) hb).trans q01; have q02 := (b22.cell (p := ⟨b, off + 2, none⟩) hb).trans q02; have q03 := (b22.cell (p := ⟨b, off + 3, none⟩) hb).trans q03; have q10 := (b22.cell (p := ⟨b, off + 4, none⟩) hb).trans q10; have q11 := (b22.cell (p := ⟨b, off + 4 + 1, none⟩) hb).trans q11; have q12 := (b22.cell (p := ⟨b, off + 4 + 2, none⟩) hb).trans q12; have q13 := (b22.cell (p := ⟨b, off + 4 + 3, none⟩) hb).trans q13; have hb := Nat.lt_of_lt_of_le hb b22.size; obtain ⟨⟨x0, x1, x2, x3, x4⟩, xz⟩ := five_cells HK.out; obtain ⟨⟨r0, r1, r2, r3, r4⟩, rz⟩ := five_cells HF.out.r; obtain ⟨⟨z0, z1, z2, z3, z4⟩, zz⟩ := five_cells HF.out.z; clear b22)))
 have HK := Lib.hid (set5 HK.out (.int .i64 (iz + 1))).2.2.2
 have HF := Lib.hid (HF.out.set hg7 4 (.int .i64 (iz + 1)))
 have q00 := (far_cell (i := 4) (v := .int .i64 (iz + 1)) (o := off) (W := w22) hbg).trans q00
 have q01 := (far_cell (i := 4) (v := .int .i64 (iz + 1)) (o := off + 1) (W := w22) hbg).trans q01
 have q02 := (far_cell (i := 4) (v := .int .i64 (iz + 1)) (o := off + 2) (W := w22) hbg).trans q02
 have q03 := (far_cell (i := 4) (v := .int .i64 (iz + 1)) (o := off + 3) (W := w22) hbg).trans q03
 have q10 := (far_cell (i := 4) (v := .int .i64 (iz + 1)) (o := off + 4) (W := w22) hbg).trans q10
 have q11 := (far_cell (i := 4) (v := .int .i64 (iz + 1)) (o := off + 4 + 1) (W := w22) hbg).trans q11
 have q12 := (far_cell (i := 4) (v := .int .i64 (iz + 1)) (o := off + 4 + 2) (W := w22) hbg).trans q12
 have q13 := (far_cell (i := 4) (v := .int .i64 (iz + 1)) (o := off + 4 + 3) (W := w22) hbg).trans q13
 have hb := Nat.lt_of_lt_of_le hb (Nat.le_of_eq (heap_setCell_size w22 ⟨w4.heap.size, 4, none⟩ (.int .i64 (iz + 1))).symm)
 generalize w22.setCell ⟨w4.heap.size, 4, none⟩ (.int .i64 (iz + 1)) = w23 at HK HF hb q00 q01 q02 q03 q10 q11 q12 q13 ⊢
 obtain ⟨⟨x0, x1, x2, x3, x4⟩, xz⟩ := five_cells HK.out
 obtain ⟨⟨r0, r1, r2, r3, r4⟩, rz⟩ := five_cells HF.out.r
 obtain ⟨⟨z0, z1, z2, z3, z4⟩, zz⟩ := five_cells HF.out.z
 go_wp2_with fail
 go_region
 all_goals (go_wp2_with fail)
 all_goals exact bodyPost_ret (v := .tuple #[itV (5, ⟨#[]⟩, sx, 0, iz + 1), .bool false]) (by simp [results, Try.results70, go_sem, r0, r1, r2, r3, r4, hiz]) rfl ⟨(5, ⟨#[]⟩, sx, 0, iz + 1), false, rfl, below_set5 HF.out.b.drew (by omega) _ _ _ _ _, rfl⟩
end Go.Proofs.Ytaofkaehhikfaaa
namespace Go.Proofs.Ytaofkaehhikfaaa
open Go.RowKit Vl
namespace Vl
def ritmO (t : Tk.Tok) (o : Option (List Tk.Tok)) : Option Itm := if t.1 = 6 then some (1, t.2.1, ⟨#[]⟩, 0, 0) else if t.1 = 3 then o.bind (mk false (Ru.lowS t.2.1)) else none
theorem rgs_mem : ∀ (n : Nat) (l r : List Tk.Tok), l.length <= n -> rgs l = some r -> r ≠ [] /\ ∀ x ∈ r, x ∈ l
 | _, [], r, _, h => by rw [rgs] at h; cases h
 | 0, t :: l, r, hn, _ => by simp at hn
 | n + 1, [x], r, _, h => by
   rw [rgs] at h
   split at h
   ·cases h
   ·cases h
    exact ⟨by simp, fun y hy => hy⟩
 | n + 1, x :: c :: l, r, hn, h => by
   rw [rgs] at h
   split at h
   ·cases h
   ·cases hr : rgs l with
    | none => rw [hr] at h; cases h
    | some z =>
      rw [hr] at h
      cases h
      have ih := rgs_mem n l z (by simp at hn; omega) hr
      refine ⟨by simp, fun y hy => ?_⟩
      rcases List.mem_cons.1 hy with rfl | hy
      ·simp
      ·exact List.mem_cons_of_mem _ (List.mem_cons_of_mem _ (ih.2 y hy))
theorem rpt_mem {m : List Tk.Tok} {P : List Prt} (h : rpt m = some P) : P.length <= m.length /\ ∀ p ∈ P, p.1 ∈ m /\ (∀ x ∈ p.2, x ∈ m) := by
 unfold rpt at h
 split at h
 ·cases h
 ·rw [parts_all] at h
  split at h
  ·simp only [Option.map_some, Option.some.injEq] at h
   subst h
   have h1 := G_len ((Ns.plc (Ns.ends m) m.length 0).map fun x => (Tk.tk m x, arg m x))
   rw [List.length_map] at h1
   have h2 := Ns.plc_len (es := Ns.ends m) (tz := m.length) m.length 0 (by omega)
   refine ⟨by omega, fun p hp => ?_⟩
   obtain ⟨x, hx, rfl⟩ := List.mem_map.1 (G_mem hp).1
   have hlt := (Ns.plc_mem _ (Nat.le_refl _) hx).2
   refine ⟨?_, fun y hy => ?_⟩
   ·show Tk.tk m x ∈ m
    rw [Tk.tk_eq hlt]
    exact List.getElem_mem hlt
   ·have hy2 : y ∈ arg m x := hy
    unfold arg at hy2
    split at hy2
    ·cases hy2
    ·unfold seg at hy2
     exact List.mem_of_mem_drop (List.mem_of_mem_take hy2)
  ·cases h
theorem look_mem {α : Type} : ∀ {ws : List (ByteArray × α)} {s : ByteArray} {v : α}, look ws s = some v -> ∃ p ∈ ws, p.2 = v
 | [], s, v, h => by cases h
 | p :: r, s, v, h => by
   rw [look] at h
   split at h
   ·cases h
    exact ⟨p, by simp, rfl⟩
   ·obtain ⟨q, hq, e⟩ := look_mem h
    exact ⟨q, List.mem_cons_of_mem _ hq, e⟩
theorem look_sty (s : ByteArray) : look styles s = if 0 <= sty s then some (sty s) else none := by
 unfold sty
 cases h : look styles s with
 | none => rfl
 | some v =>
   obtain ⟨p, hp, rfl⟩ := look_mem h
   have : ∀ p ∈ styles, 0 <= p.2 := by decide
   show _ = if 0 <= p.2 then some p.2 else none
   rw [if_pos (this p hp)]
theorem lst_no {r : List Tk.Tok} {ws : List (ByteArray × Int)} (hw : ∀ p ∈ ws, p.1 ≠ ⟨#[]⟩) (hr : r ≠ []) (h : ∀ t, r = [t] -> t.1 ≠ 2) (u : Int) : lst r ws u = none := by
 unfold lst
 rw [if_neg hr, wrd_no h, look_nil hw]
theorem lst_one {t : Tk.Tok} (h : t.1 = 2) (ws : List (ByteArray × Int)) (u : Int) : lst [t] ws u = look ws (Ru.lowS t.2.1) := by
 unfold lst
 rw [if_neg (by simp), wrd_one h]
theorem mk_attr (l : List Tk.Tok) : mk false wAttr l = mkAttr l := by unfold mk; rw [if_neg (by decide), if_neg (by decide), if_neg (by decide), if_neg (by decide), if_pos rfl]
theorem mk_counters (l : List Tk.Tok) : mk false wCounters l = mkCounters l := by unfold mk; rw [if_neg (by decide), if_pos rfl]
theorem mk_counter (l : List Tk.Tok) : mk false wCounter l = mkCounter l := by unfold mk; rw [if_pos rfl]
theorem mk_string (l : List Tk.Tok) : mk false wString l = mkAssigned 4 l := by unfold mk; rw [if_neg (by decide), if_neg (by decide), if_pos rfl]
theorem mk_element (l : List Tk.Tok) : mk false wElement l = mkAssigned 5 l := by unfold mk; rw [if_neg (by decide), if_neg (by decide), if_neg (by decide), if_pos rfl]
theorem mk_other {f : ByteArray} (h1 : f ≠ wAttr) (h2 : f ≠ wCounters) (h3 : f ≠ wCounter) (h4 : f ≠ wString) (h5 : f ≠ wElement) (l : List Tk.Tok) : mk false f l = none := by
 unfold mk; rw [if_neg h3, if_neg h2, if_neg h4, if_neg h5, if_neg h1, if_neg (fun c => by cases c.1)]
theorem mk_unnamed {x : Tk.Tok} (h : ¬ nam x = true) (f : ByteArray) (r : List Tk.Tok) : mk false f (x :: r) = none := by
 have c1 : mkCounter (x :: r) = none := if_neg h
 have c2 : mkCounters (x :: r) = none := by cases r with
  | nil => rfl
  | cons y r => exact if_neg (fun c => h c.1)
 have c3 : ∀ k, mkAssigned k (x :: r) = none := fun k => if_neg h
 have c4 : mkAttr (x :: r) = none := by cases r with
  | nil => exact if_neg h
  | cons y r => rfl
 unfold mk
 rw [c1, c2, c3, c3, c4]
 simp
end Vl
theorem vitem_any (t : Tk.Tok) (m : List Tk.Tok) (hm : m.length <= 1000) (hs : t.2.1.size <= 90000) (hsm : ∀ x ∈ m, x.2.1.size <= 90000) (A : Option Addr) (cap : Nat) (hcap : m.length <= cap) (w : World) (h : Ts w w.heap.size A m) :
 Calls Try.prog 70 #[prtV t A m.length cap] w (ItIs (ritmO t ((rpt m).bind fun P => rgs (fs P))) w) := by
 have CA0 := fun W (hb : Below w.heap.size w W) => vargs_any t m hm A cap hcap W (h.next hb)
 obtain ⟨kd, tx, num⟩ := t
 by_cases h6 : kd = 6
 ·subst h6
  exact vitem_text tx num A m.length cap w
 ·by_cases h3 : kd = 3
  ·subst h3
   have hR : ∀ o, ritmO (3, tx, num) o = o.bind (mk false (Ru.lowS tx)) := fun o => rfl
   rw [hR]
   cases ho : (rpt m).bind fun P => rgs (fs P) with
   | none =>
     rw [ho] at CA0
     exact vitem_noargs tx num A m.length cap w (Lib.hid fun W hb => (CA0 W hb).mono fun e w' hh => hh.2 rfl)
   | some ts =>
     rw [ho] at CA0
     have hts : ts ≠ [] /\ (∀ x ∈ ts, x.2.1.size <= 90000) /\ ts.length <= 1000 := by
      cases hp : rpt m with
      | none => rw [hp] at ho; cases ho
      | some P =>
        rw [hp] at ho
        have ho' : rgs (fs P) = some ts := ho
        have h1 := rgs_mem _ _ _ (Nat.le_refl _) ho'
        have h2 := rpt_mem hp
        refine ⟨h1.1, fun x hx => ?_, ?_⟩
        ·obtain ⟨p, hp2, rfl⟩ := List.mem_map.1 (h1.2 x hx)
         exact hsm _ (h2.2 p hp2).1
        ·have h3 := rgs_ev _ (fs P) (Nat.le_refl _)
         by_cases hk : okA (fs P)
         ·rw [h3.1 hk] at ho'
          cases ho'
          have := evs_len _ (fs P) (Nat.le_refl _)
          rw [fs_len] at this
          omega
         ·rw [h3.2 hk] at ho'; cases ho'
     obtain ⟨hne, hsz, hlen⟩ := hts
     have CA1 : ∀ W, Below w.heap.size w W -> Calls Try.prog 89 #[prtV (3, tx, num) A m.length cap] W (ToldTk ts W) := fun W hb => (CA0 W hb).mono fun e w' hh => hh.1 ts rfl
     have CL : Hid (∀ W, Calls Try.prog 52 #[prtV (3, tx, num) A m.length cap] W (Sg (Ru.lowS tx) W)) := Lib.hid fun W => vlow_any (3, tx, num) hs A m.length cap W
     clear CA0 ho
     show Calls _ _ _ _ (ItIs (mk false (Ru.lowS tx) ts) w)
     match ts, hne with
     | x :: r, _ =>
       obtain ⟨kx, sx, nx⟩ := x
       have hsx := hsz (kx, sx, nx) (by simp)
       have CA2 : Hid (∀ W, Below w.heap.size w W -> Calls Try.prog 89 #[prtV (3, tx, num) A m.length cap] W (ArgT (r.length + 1) ((kx, sx, nx) :: r) W)) := Lib.hid CA1
       by_cases hn : nam (kx, sx, nx) = true
       ·have CN : Hid (∀ W A n c, Calls Try.prog 43 #[prtV (kx, sx, nx) A n c] W (Bo true W)) := Lib.hid fun W A n c => by
         have := vnamed_any (kx, sx, nx) hsx A n c W
         rwa [hn] at this
        by_cases f1 : Ru.lowS tx = wAttr
        ·have e1 := str_yesL [97, 116, 116, 114] f1
         rw [f1, mk_attr]
         cases r with
         | nil =>
           have hv : mkAttr [(kx, sx, nx)] = some (6, ⟨#[]⟩, sx, 0, 0) := if_pos hn
           rw [hv]
           exact vitem_attr1 tx num A m.length cap w kx sx nx CA2 CN _ CL e1
         | cons y r =>
           obtain ⟨ky, sy, ny⟩ := y
           exact vitem_attr2 tx num A m.length cap w kx sx nx ky sy ny r (r.length + 2) (by simp) (by simpa using hlen) CA2 CN _ CL e1
        ·have e1 := str_noL [97, 116, 116, 114] f1
         by_cases f2 : Ru.lowS tx = wCounters
         ·have e2 := str_yesL [99, 111, 117, 110, 116, 101, 114, 115] f2
          rw [f2, mk_counters]
          cases r with
          | nil => exact vitem_cs_one tx num A m.length cap w kx sx nx CA2 CN _ CL e1 e2
          | cons y r =>
            obtain ⟨ky, sy, ny⟩ := y
            by_cases hy : ky = 6
            ·have by6 : (ky != 6) = false := by simp [hy]
             have hv : mkCounters ((kx, sx, nx) :: (ky, sy, ny) :: r) = (lst r styles 0).map fun s => (3, sy, sx, s, 0) := if_pos ⟨hn, hy⟩
             rw [hv]
             cases r with
             | nil => exact vitem_cs2 tx num A m.length cap w kx sx nx ky sy ny CA2 CN _ CL e1 e2 by6
             | cons z r =>
               obtain ⟨kz, sz, nz⟩ := z
               cases r with
               | nil =>
                 by_cases hz : kz = 2
                 ·have bz : (kz != 2) = false := by simp [hz]
                  rw [lst_one (t := (kz, sz, nz)) hz, look_sty]
                  have CS : Hid (∀ W, Calls Try.prog 32 #[.string sz] W (Nu (sty (Ru.lowS sz)) W)) := Lib.hid fun W => vstyle_any sz (hsz (kz, sz, nz) (by simp)) W
                  by_cases hst : 0 <= sty (Ru.lowS sz)
                  ·rw [if_pos hst]
                   exact vitem_cs3 tx num A m.length cap w kx sx nx ky sy ny kz sz nz CA2 CN _ CL e1 e2 by6 bz _ hst CS
                  ·rw [if_neg hst]
                   exact vitem_cs3n tx num A m.length cap w kx sx nx ky sy ny kz sz nz CA2 CN _ CL e1 e2 by6 bz _ (by omega) CS
                 ·have bz : (kz != 2) = true := bne_iff_ne.2 hz
                  rw [lst_no styles_ne (by simp) (fun t ht => by simp at ht; rw [<- ht]; exact hz)]
                  exact vitem_cs_bad tx num A m.length cap w kx sx nx ky sy ny kz sz nz CA2 CN _ CL e1 e2 by6 bz
               | cons u r =>
                 rw [lst_no styles_ne (by simp) (fun t ht => by simp at ht)]
                 exact vitem_cs_long tx num A m.length cap w kx sx nx ky sy ny ((kz, sz, nz) :: u :: r) (r.length + 4) (by simp) (by simpa using hlen) CA2 CN _ CL e1 e2 by6
            ·have by6 : (ky != 6) = true := bne_iff_ne.2 hy
             have hv : mkCounters ((kx, sx, nx) :: (ky, sy, ny) :: r) = none := if_neg (fun c => hy c.2)
             rw [hv]
             exact vitem_cs_noS tx num A m.length cap w kx sx nx ky sy ny r (r.length + 2) (by simp) (by simpa using hlen) CA2 CN _ CL e1 e2 by6
         ·have e2 := str_noL [99, 111, 117, 110, 116, 101, 114, 115] f2
          by_cases f3 : Ru.lowS tx = wCounter
          ·have e3 := str_yesL [99, 111, 117, 110, 116, 101, 114] f3
           have hv : mkCounter ((kx, sx, nx) :: r) = (lst r styles 0).map fun s => (2, ⟨#[]⟩, sx, s, 0) := if_pos hn
           rw [f3, mk_counter, hv]
           cases r with
           | nil => exact vitem_cnt1 tx num A m.length cap w kx sx nx CA2 CN _ CL e1 e2 e3
           | cons y r =>
             obtain ⟨ky, sy, ny⟩ := y
             cases r with
             | nil =>
               by_cases hz : ky = 2
               ·have bz : (ky != 2) = false := by simp [hz]
                rw [lst_one (t := (ky, sy, ny)) hz, look_sty]
                have CS : Hid (∀ W, Calls Try.prog 32 #[.string sy] W (Nu (sty (Ru.lowS sy)) W)) := Lib.hid fun W => vstyle_any sy (hsz (ky, sy, ny) (by simp)) W
                by_cases hst : 0 <= sty (Ru.lowS sy)
                ·rw [if_pos hst]
                 exact vitem_cnt2 tx num A m.length cap w kx sx nx ky sy ny CA2 CN _ CL e1 e2 e3 bz _ hst CS
                ·rw [if_neg hst]
                 exact vitem_cnt2n tx num A m.length cap w kx sx nx ky sy ny CA2 CN _ CL e1 e2 e3 bz _ (by omega) CS
               ·have bz : (ky != 2) = true := bne_iff_ne.2 hz
                rw [lst_no styles_ne (by simp) (fun t ht => by simp at ht; rw [<- ht]; exact hz)]
                exact vitem_cnt_bad tx num A m.length cap w kx sx nx ky sy ny CA2 CN _ CL e1 e2 e3 bz
             | cons u r =>
               rw [lst_no styles_ne (by simp) (fun t ht => by simp at ht)]
               exact vitem_cnt_long tx num A m.length cap w kx sx nx ((ky, sy, ny) :: u :: r) (r.length + 3) (by simp) (by simpa using hlen) CA2 CN _ CL e1 e2 e3
          ·have e3 := str_noL [99, 111, 117, 110, 116, 101, 114] f3
           have hA : ∀ k, mkAssigned k ((kx, sx, nx) :: r) = (lst r whichs 1).map fun s => (k, ⟨#[]⟩, sx, 0, s) := fun k => if_pos hn
           by_cases f4 : Ru.lowS tx = wString
           ·have e4 := str_yesL [115, 116, 114, 105, 110, 103] f4
            rw [f4, mk_string, hA]
            cases r with
            | nil => exact vitem_st1 tx num A m.length cap w kx sx nx CA2 CN _ CL e1 e2 e3 e4
            | cons y r =>
              obtain ⟨ky, sy, ny⟩ := y
              cases r with
              | nil =>
                by_cases hz : ky = 2
                ·have bz : (ky != 2) = false := by simp [hz]
                 rw [lst_one (t := (ky, sy, ny)) hz, whi_same]
                 have CZ : Hid (∀ W A n c, Calls Try.prog 52 #[prtV (ky, sy, ny) A n c] W (Sg (Ru.lowS sy) W)) := Lib.hid fun W A n c => vlow_any (ky, sy, ny) (hsz (ky, sy, ny) (by simp)) A n c W
                 have CT : Hid (∀ W A, Ss W A whiNames -> Calls Try.prog 49 #[.slice A 4 4, .string (Ru.lowS sy)] W (Nu (ix whiNames (Ru.lowS sy) 0) W)) := Lib.hid fun W A h => vat_any whiNames (by decide) A 4 _ W h
                 have hb := ix_le whiNames (Ru.lowS sy) 0 (Int.le_refl _)
                 have hb2 : ix whiNames (Ru.lowS sy) 0 <= 100 := by have hb2 : whiNames.length = 4 := rfl; omega
                 by_cases hst : ix whiNames (Ru.lowS sy) 0 + 1 > 0
                 ·rw [if_pos hst]
                  exact vitem_st2 tx num A m.length cap w kx sx nx ky sy ny CA2 CN _ CL e1 e2 e3 e4 bz _ _ hb.1 hb2 hst CZ CT
                 ·rw [if_neg hst]
                  exact vitem_st2n tx num A m.length cap w kx sx nx ky sy ny CA2 CN _ CL e1 e2 e3 e4 bz _ _ hb.1 hb2 (by omega) CZ CT
                ·have bz : (ky != 2) = true := bne_iff_ne.2 hz
                 rw [lst_no whichs_ne (by simp) (fun t ht => by simp at ht; rw [<- ht]; exact hz)]
                 exact vitem_st_bad tx num A m.length cap w kx sx nx ky sy ny CA2 CN _ CL e1 e2 e3 e4 bz
              | cons u r =>
                rw [lst_no whichs_ne (by simp) (fun t ht => by simp at ht)]
                exact vitem_st_long tx num A m.length cap w kx sx nx ((ky, sy, ny) :: u :: r) (r.length + 3) (by simp) (by simpa using hlen) CA2 CN _ CL e1 e2 e3 e4
           ·have e4 := str_noL [115, 116, 114, 105, 110, 103] f4
            by_cases f5 : Ru.lowS tx = wElement
            ·have e5 := str_yesL [101, 108, 101, 109, 101, 110, 116] f5
             rw [f5, mk_element, hA]
             cases r with
             | nil => exact vitem_el1 tx num A m.length cap w kx sx nx CA2 CN _ CL e1 e2 e3 e4 e5
             | cons y r =>
               obtain ⟨ky, sy, ny⟩ := y
               cases r with
               | nil =>
                 by_cases hz : ky = 2
                 ·have bz : (ky != 2) = false := by simp [hz]
                  rw [lst_one (t := (ky, sy, ny)) hz, whi_same]
                  have CZ : Hid (∀ W A n c, Calls Try.prog 52 #[prtV (ky, sy, ny) A n c] W (Sg (Ru.lowS sy) W)) := Lib.hid fun W A n c => vlow_any (ky, sy, ny) (hsz (ky, sy, ny) (by simp)) A n c W
                  have CT : Hid (∀ W A, Ss W A whiNames -> Calls Try.prog 49 #[.slice A 4 4, .string (Ru.lowS sy)] W (Nu (ix whiNames (Ru.lowS sy) 0) W)) := Lib.hid fun W A h => vat_any whiNames (by decide) A 4 _ W h
                  have hb := ix_le whiNames (Ru.lowS sy) 0 (Int.le_refl _)
                  have hb2 : ix whiNames (Ru.lowS sy) 0 <= 100 := by have hb2 : whiNames.length = 4 := rfl; omega
                  by_cases hst : ix whiNames (Ru.lowS sy) 0 + 1 > 0
                  ·rw [if_pos hst]
                   exact vitem_el2 tx num A m.length cap w kx sx nx ky sy ny CA2 CN _ CL e1 e2 e3 e4 e5 bz _ _ hb.1 hb2 hst CZ CT
                  ·rw [if_neg hst]
                   exact vitem_el2n tx num A m.length cap w kx sx nx ky sy ny CA2 CN _ CL e1 e2 e3 e4 e5 bz _ _ hb.1 hb2 (by omega) CZ CT
                 ·have bz : (ky != 2) = true := bne_iff_ne.2 hz
                  rw [lst_no whichs_ne (by simp) (fun t ht => by simp at ht; rw [<- ht]; exact hz)]
                  exact vitem_el_bad tx num A m.length cap w kx sx nx ky sy ny CA2 CN _ CL e1 e2 e3 e4 e5 bz
               | cons u r =>
                 rw [lst_no whichs_ne (by simp) (fun t ht => by simp at ht)]
                 exact vitem_el_long tx num A m.length cap w kx sx nx ((ky, sy, ny) :: u :: r) (r.length + 3) (by simp) (by simpa using hlen) CA2 CN _ CL e1 e2 e3 e4 e5
            ·have e5 := str_noL [101, 108, 101, 109, 101, 110, 116] f5
             rw [mk_other f1 f2 f3 f4 f5]
             exact vitem_other tx num A m.length cap w kx sx nx r (r.length + 1) (by simp) (by simpa using hlen) CA2 CN _ CL e1 e2 e3 e4 e5
       ·have hnf : nam (kx, sx, nx) = false := by simpa using hn
        have CN : Hid (∀ W A n c, Calls Try.prog 43 #[prtV (kx, sx, nx) A n c] W (Bo false W)) := Lib.hid fun W A n c => by
         have := vnamed_any (kx, sx, nx) hsx A n c W
         rwa [hnf] at this
        rw [mk_unnamed hn]
        exact vitem_unnamed tx num A m.length cap w kx sx nx r (r.length + 1) (by simp) (by simpa using hlen) CA2 CN
  ·have hv : ∀ o, ritmO (kd, tx, num) o = none := fun o => by unfold ritmO; rw [if_neg h6, if_neg h3]
   rw [hv]
   refine vitem_not3 kd tx num A m.length cap w (beq_false_of_ne h6) (bne_iff_ne.2 h3) (Lib.hid fun W hb => (CA0 W hb).mono fun e w' hh => ?_)
   cases ho : (rpt m).bind fun P => rgs (fs P) with
   | none =>
     have := hh.2 ho
     exact ⟨⟨_, _, this.1⟩, this.2⟩
   | some ts =>
     obtain ⟨A1, c1, he, _, _, hb1⟩ := hh.1 ts ho
     exact ⟨⟨_, _, he⟩, hb1⟩
end Go.Proofs.Ytaofkaehhikfaaa
namespace Go.Proofs.Ytaofkaehhikfaaa
open Go.RowKit Vl
namespace Vl
def ItQ (_ : World) (it : Itm) (cs : List Value) : Prop := cs = [.int .i64 it.1, .string it.2.1, .string it.2.2.1, .int .i64 it.2.2.2.1, .int .i64 it.2.2.2.2]
theorem kT_it {E : TypeId} : Rl.KeepsT E ItQ := fun _ _ _ _ _ h _ => h
theorem keeps_it : Rl.Keeps ItQ := fun _ _ _ _ h _ => h
abbrev GrI (w0 : World) (v : Value) (l : List Itm) (wr : World) : Prop := Rl.Gr 57 5 ItQ w0 v l wr
abbrev zItm : Value := .agg #[.int .i64 0, .string ⟨#[]⟩, .string ⟨#[]⟩, .int .i64 0, .int .i64 0]
theorem Try.infoItm : (Try.prog.info? 57).map (fun i => (i.zero, i.size, i.bytes)) = some (some zItm, 5, 56) := by kernel_rfl
theorem app_itm {ops : Array Oper} {rest : List Oper} {o : Oper} {a : Act} {Q : Exit -> Act -> World -> Prop} {w0 wr : World} {v : Value} {l : List Itm} (hgd : o.guard = none) (s x : Operand)
 (ho : o.op = .call { callee := .builtin .append, args := #[s, x], argTypes := #[25, 25] }) (hs : a.eval s = v) (H : GrI w0 v l wr) (it : Itm) (c : Nat) (E' : TypeId)
 (hx : a.eval x = .slice (some ⟨wr.heap.size, 0, none⟩) 1 c) (hm : l.length <= 1000000)
 (h : ∀ v' w3, GrI w0 v' (l ++ [it]) w3 -> wpList Try.prog ops Q rest (a.put o.dst v') w3) :
 wpList Try.prog ops Q (o :: rest) a (wr.alloc (.cells #[.int .i64 it.1, .string it.2.1, .string it.2.2.1, .int .i64 it.2.2.2.1, .int .i64 it.2.2.2.2] E')) := by
 obtain ⟨i0, hi, hz0, hz1, hz2⟩ := info_parts Try.infoItm
 exact Rl.Gr.app (E := 57) kT_it hgd s x 25 ho i0 _ 56 Try.underlying25 hi hz0 hz1 hz2 rfl (by decide) hs H it [.int .i64 it.1, .string it.2.1, .string it.2.2.1, .int .i64 it.2.2.2.1, .int .i64 it.2.2.2.2] rfl c E' hx rfl (by simp [Value.oneCell']) (by unfold maxLen; omega) (by omega) (fun v' w3 h1 _ _ => h v' w3 h1)
def ToldI (l : List Itm) (w : World) (e : Ending) (w' : World) : Prop :=
 ∃ (A : Option Addr) (cap : Nat), e = .returned (.tuple #[.slice A l.length cap, .bool true]) /\ l.length <= cap /\ Rl.Cells 5 ItQ w' A l /\ Rl.Tyd (some 57) w' A /\ Below w.heap.size w w'
def NoS (w : World) (e : Ending) (w' : World) : Prop := ∃ (A : Option Addr) (n c : Nat), e = .returned (.tuple #[.slice A n c, .bool false]) /\ Below w.heap.size w w'
def ItsIs (o : Option (List Itm)) (w : World) (e : Ending) (w' : World) : Prop := (∀ l, o = some l -> ToldI l w e w') /\ (o = none -> NoS w e w')
theorem ItsIs.bad {o : Option (List Itm)} {w : World} {e : Ending} {w' : World} (ho : o = none) (h : NoS w e w') : ItsIs o w e w' := ⟨fun _ hp => by (rw [ho] at hp; cases hp), fun _ => h⟩
theorem ItsIs.ok {o : Option (List Itm)} {l : List Itm} {w : World} {e : Ending} {w' : World} (ho : o = some l) (h : ToldI l w e w') : ItsIs o w e w' := ⟨fun _ hp => by (rw [ho] at hp; injection hp with hp; subst hp; exact h), fun hp => by (rw [ho] at hp; cases hp)⟩
theorem set5all {w : World} {k : Nat} {a b c d e : Value} {E : TypeId} (h : w.heap[k]? = some (.cells #[a, b, c, d, e] E (0, 0))) (x0 x1 x2 x3 x4 : Value) :
 (((((w.setCell ⟨k, 0, none⟩ x0).setCell ⟨k, 1, none⟩ x1).setCell ⟨k, 2, none⟩ x2).setCell ⟨k, 3, none⟩ x3).setCell ⟨k, 4, none⟩ x4).heap[k]? = some (.cells #[x0, x1, x2, x3, x4] E (0, 0)) := by
 simp [World.setCell, Array.getElem?_modify, h]
def ritF (own : Bool) (p : Prt) : Option Itm := ritm own p (rin p)
theorem ritF_eq {own : Bool} {p : Prt} {Q : List Prt} (h : rpt p.2 = some Q) : ritF own p = if own = true /\ p.1.1 = 3 /\ Ru.lowS p.1.2.1 = wContent /\ Q = [] then some (6, ⟨#[]⟩, ⟨#[]⟩, 0, 0) else ritmO p.1 ((rpt p.2).bind fun P => rgs (fs P)) := by
 have hr : rin p = fs Q := by
  unfold rpt at h
  split at h
  ·cases h
  ·unfold rin
   cases hp : parts p.2 with
   | none => rw [hp] at h; cases h
   | some qs =>
     rw [hp] at h
     simp only [Option.map_some, Option.some.injEq] at h
     rw [<- h]; rfl
 unfold ritF ritm ritmO
 rw [hr, h]
 have e : (fs Q = []) ↔ Q = [] := by unfold fs; simp
 by_cases hc : own = true /\ p.1.1 = 3 /\ Ru.lowS p.1.2.1 = wContent /\ Q = []
 ·rw [if_pos hc, if_pos ⟨hc.1, hc.2.1, hc.2.2.1, e.2 hc.2.2.2⟩]
 ·rw [if_neg hc, if_neg (fun h => hc ⟨h.1, h.2.1, h.2.2.1, e.1 h.2.2.2⟩)]; rfl
end Vl
theorem vitems_any (P : List Prt) (hP : P.length <= 1000) (hok : ∀ p ∈ P, (∃ Q, rpt p.2 = some Q) /\ p.2.length <= 1000 /\ p.1.2.1.size <= 90000 /\ ∀ x ∈ p.2, x.2.1.size <= 90000) (own : Bool) (A : Option Addr) (cap : Nat) (w0 w : World) (hw0 : Below w0.heap.size w0 w) (h : Rl.Cells 4 (PrtQ w0) w A P) :
 Calls Try.prog 40 #[.slice A P.length cap, .bool own] w (ItsIs (some_ (seqO (ritF own) P)) w) := by
 have H := Lib.hid h
 have HOK := Lib.hid hok
 have HW0 := Lib.hid hw0
 clear h hok hw0
 go_enter Try.func40, Try.ntmps40
 go_wp2_with fail
 go_loopw [6, 7] (fun v6 v7 wr => ∃ (k : Nat) (out : List Itm), k <= P.length /\ v7 = .int .i64 k /\ out.length <= k /\ Hid (seqO (ritF own) (P.take k) = some out) /\ Hid (GrI w v6 out wr)) (fun _ v7 _ => P.length - (RowKit.intOf v7).toNat)
 case atStart => exact ⟨0, [], Nat.zero_le _, rfl, Nat.le_refl _, Lib.hid rfl, Lib.hid (Rl.Gr.start (Below.refl _ _))⟩
 case round =>
  obtain ⟨k, out, hk, rfl, hol, HS, HG⟩ := hrel
  have HBk := Lib.hid HG.out.bel
  by_cases hlt : k < P.length
  ·obtain ⟨b, off, A', cp, rfl, hb, hcp, hTs, q0, q1, q2, q3⟩ := prt_at H.out hlt
   obtain ⟨⟨Q, hQ⟩, hl2, hs1, hs2⟩ := HOK.out P[k] (List.getElem_mem hlt)
   replace q0 := (HBk.out.cell (p := ⟨b, off + k * 4, none⟩) hb).trans q0
   replace q1 := (HBk.out.cell (p := ⟨b, off + k * 4 + 1, none⟩) hb).trans q1
   replace q2 := (HBk.out.cell (p := ⟨b, off + k * 4 + 2, none⟩) hb).trans q2
   replace q3 := (HBk.out.cell (p := ⟨b, off + k * 4 + 3, none⟩) hb).trans q3
   replace hb : b < wr.heap.size := Nat.lt_of_lt_of_le hb HBk.out.size
   rw [fs_tk hlt] at q0 q1 q2
   have HTS : Hid (∀ W, Below wr.heap.size wr W -> Ts W W.heap.size A' P[k].2) := Lib.hid fun W hb => hTs.next ((below_next HW0.out (below_next HBk.out hb)))
   have CI : Hid (∀ W, Below wr.heap.size wr W -> Calls Try.prog 70 #[prtV P[k].1 A' P[k].2.length cp] W (ItIs (ritmO P[k].1 ((rpt P[k].2).bind fun P => rgs (fs P))) W)) := Lib.hid fun W hb => vitem_any P[k].1 P[k].2 hl2 hs1 hs2 A' cp hcp W (HTS.out W hb)
   have CP : Hid (∀ W, Below wr.heap.size wr W -> Calls Try.prog 38 #[.slice A' P[k].2.length cp] W (ToldPr Q W)) := Lib.hid fun W hb => (vparts_any P[k].2 hl2 A' cp hcp W (HTS.out W hb)).mono fun e w' hh => hh.1 Q hQ
   have CL : Hid (∀ W A n c, Calls Try.prog 52 #[prtV P[k].1 A n c] W (Sg (Ru.lowS P[k].1.2.1) W)) := Lib.hid fun W A n c => vlow_any P[k].1 hs1 A n c W
   have HE := Lib.hid (ritF_eq (own := own) hQ)
   have HTK : Hid (P.take (k + 1) = P.take k ++ [P[k]]) := Lib.hid (List.take_succ_eq_append_getElem hlt)
   have HNo : Hid (ritF own P[k] = none -> some_ (seqO (ritF own) P) = none) := Lib.hid fun hn => by rw [seqO_bad (List.getElem_mem hlt) hn]; rfl
   have HYes : Hid (∀ it, ritF own P[k] = some it -> seqO (ritF own) (P.take (k + 1)) = some (out ++ [it])) := Lib.hid fun it hi => by rw [HTK.out]; exact seqO_snoc HS.out hi
   have hQl : Q.length <= 1000 := by have := (rpt_mem hQ).1; omega
   clear hTs HTS hcp hs1 hs2 HTK HS hQ
   generalize ritF own P[k] = rf at *
   generalize ritmO P[k].1 ((rpt P[k].2).bind fun P => rgs (fs P)) = rm at *
   generalize P[k].2.length = pl at *
   generalize P[k].1 = u at *
   obtain ⟨kd, tx, num⟩ := u
   simp only at q0 q1 q2 HE CL
   go_upto_region 6 with (go_at_call 70; ((with_reducible refine (CI.out _ (Below.refl _ _)).mono ?_); rintro e w2 ⟨⟨i0, i1, i2, i3, i4⟩, bo, rfl, b2, ho⟩; have HO := Lib.hid ho; have HB2 := Lib.hid b2; clear ho b2))
   have k3 := heap_alloc_new w2 (itO i0 i1 i2 i3 i4)
   have b3 := (Below.refl w2.heap.size w2).alloc (Nat.le_refl _) (itO i0 i1 i2 i3 i4)
   generalize w2.alloc (itO i0 i1 i2 i3 i4) = w3 at k3 b3 ⊢
   have HB3 := Lib.hid (below_next HB2.out b3)
   have hg2 : wr.heap.size <= w2.heap.size := HB2.out.size
   have HK := Lib.hid k3
   replace q0 := (HB3.out.cell (p := ⟨b, off + k * 4, none⟩) hb).trans q0
   replace q1 := (HB3.out.cell (p := ⟨b, off + k * 4 + 1, none⟩) hb).trans q1
   replace q2 := (HB3.out.cell (p := ⟨b, off + k * 4 + 2, none⟩) hb).trans q2
   replace q3 := (HB3.out.cell (p := ⟨b, off + k * 4 + 3, none⟩) hb).trans q3
   replace hb : b < w3.heap.size := Nat.lt_of_lt_of_le hb HB3.out.size
   clear k3 b3
   go_upto_region 7 with (go_at_call 38; ((with_reducible refine (CP.out _ HB3.out).mono ?_); rintro e w4 ⟨A4, c4, rfl, hc4, C4, b4⟩; have HB4 := Lib.hid (below_next HB3.out b4); have HK4 := Lib.hid (below_block b4 HK.out); replace q0 := (b4.cell (p := ⟨b, off + k * 4, none⟩) hb).trans q0; replace q1 := (b4.cell (p := ⟨b, off + k * 4 + 1, none⟩) hb).trans q1; replace q2 := (b4.cell (p := ⟨b, off + k * 4 + 2, none⟩) hb).trans q2; replace q3 := (b4.cell (p := ⟨b, off + k * 4 + 3, none⟩) hb).trans q3; replace hb := Nat.lt_of_lt_of_le hb b4.size; obtain ⟨⟨x0, x1, x2, x3, x4⟩, xz⟩ := five_cells HK4.out; clear b4 C4))
   clear CI CP HB2 HB3 HK
   cases own
   ·rw [if_neg (fun c => by cases c.1)] at HE
    cases bo
    ·have HV := Lib.hid (HNo.out (by rw [HE.out, HO.out]; rfl))
     go_wp2_with fail
     go_ret2
     exact ItsIs.bad HV.out ⟨_, _, _, rfl, below_next HBk.out HB4.out⟩
    ·have HV := Lib.hid (HYes.out (i0, i1, i2, i3, i4) (by rw [HE.out, HO.out]; rfl))
     go_wp2_with (at_builtin; refine app_itm rfl _ _ rfl rfl (Rl.Gr.next keeps_it HG.out HB4.out) (i0, i1, i2, i3, i4) _ _ rfl (by omega) ?_; intro v' w6 H6; have HG6 := Lib.hid H6; clear H6)
     go_roundw
     case rel => exact ⟨k + 1, _, by omega, by go_num, (by rw [List.length_append]; simp; omega), HV, HG6⟩
     case measure => simp [RowKit.intOf]; omega
   ·by_cases h3 : kd = 3
    ·have e3 : (kd == 3) = true := beq_iff_eq.2 h3
     by_cases hc : Ru.lowS tx = wContent
     ·have ec := str_yesL [99, 111, 110, 116, 101, 110, 116] hc
      by_cases hq : Q = []
      ·have eq : ((Q.length : Int) == 0) = true := by rw [hq]; rfl
       rw [if_pos ⟨rfl, h3, hc, hq⟩] at HE
       clear h3 hc hq
       have HV := Lib.hid (HYes.out (6, ⟨#[]⟩, ⟨#[]⟩, 0, 0) HE.out)
       go_upto_region 9 with (go_at_call 52; ((with_reducible refine (CL.out _ _ _ _).mono ?_); rintro e w5 ⟨rfl, b5⟩; have HB4 := Lib.hid (below_next HB4.out b5); have HK4 := Lib.hid (below_block b5 HK4.out); obtain ⟨⟨x0, x1, x2, x3, x4⟩, xz⟩ := five_cells HK4.out; clear b5))
       have k6 := set5all HK4.out (.int .i64 6) (.string ⟨#[]⟩) (.string ⟨#[]⟩) (.int .i64 0) (.int .i64 0)
       have b6 := below_set5 HB4.out hg2 (.int .i64 6) (.string ⟨#[]⟩) (.string ⟨#[]⟩) (.int .i64 0) (.int .i64 0)
       generalize (((((w5.setCell ⟨w2.heap.size, 0, none⟩ (.int .i64 6)).setCell ⟨w2.heap.size, 1, none⟩ (.string ⟨#[]⟩)).setCell ⟨w2.heap.size, 2, none⟩ (.string ⟨#[]⟩)).setCell ⟨w2.heap.size, 3, none⟩ (.int .i64 0)).setCell ⟨w2.heap.size, 4, none⟩ (.int .i64 0)) = w6 at k6 b6 ⊢
       have HB4 := Lib.hid b6
       obtain ⟨⟨y0, y1, y2, y3, y4⟩, yz⟩ := five_cells k6
       clear k6 b6
       go_wp2_with (at_builtin; refine app_itm rfl _ _ rfl rfl (Rl.Gr.next keeps_it HG.out HB4.out) (6, ⟨#[]⟩, ⟨#[]⟩, 0, 0) _ _ rfl (by omega) ?_; intro v' w6 H6; have HG6 := Lib.hid H6; clear H6)
       go_roundw
       case rel => exact ⟨k + 1, _, by omega, by go_num, (by rw [List.length_append]; simp; omega), HV, HG6⟩
       case measure => simp [RowKit.intOf]; omega
      ·have eq : ((Q.length : Int) == 0) = false := beq_false_of_ne (fun c => hq (List.eq_nil_of_length_eq_zero (by omega)))
       rw [if_neg (fun c => hq c.2.2.2)] at HE
       clear h3 hc hq
       cases bo
       ·have HV := Lib.hid (HNo.out (by rw [HE.out, HO.out]; rfl))
        go_wp2_with (go_at_call 52; ((with_reducible refine (CL.out _ _ _ _).mono ?_); rintro e w5 ⟨rfl, b5⟩; have HB4 := Lib.hid (below_next HB4.out b5); have HK4 := Lib.hid (below_block b5 HK4.out); obtain ⟨⟨x0, x1, x2, x3, x4⟩, xz⟩ := five_cells HK4.out; clear b5))
        go_ret2
        exact ItsIs.bad HV.out ⟨_, _, _, rfl, below_next HBk.out HB4.out⟩
       ·have HV := Lib.hid (HYes.out (i0, i1, i2, i3, i4) (by rw [HE.out, HO.out]; rfl))
        go_wp2_with (first | (go_at_call 52; ((with_reducible refine (CL.out _ _ _ _).mono ?_); rintro e w5 ⟨rfl, b5⟩; have HB4 := Lib.hid (below_next HB4.out b5); have HK4 := Lib.hid (below_block b5 HK4.out); obtain ⟨⟨x0, x1, x2, x3, x4⟩, xz⟩ := five_cells HK4.out; clear b5)) | (at_builtin; refine app_itm rfl _ _ rfl rfl (Rl.Gr.next keeps_it HG.out HB4.out) (i0, i1, i2, i3, i4) _ _ rfl (by omega) ?_; intro v' w6 H6; have HG6 := Lib.hid H6; clear H6))
        go_roundw
        case rel => exact ⟨k + 1, _, by omega, by go_num, (by rw [List.length_append]; simp; omega), HV, HG6⟩
        case measure => simp [RowKit.intOf]; omega
     ·have ec := str_noL [99, 111, 110, 116, 101, 110, 116] hc
      rw [if_neg (fun c => hc c.2.2.1)] at HE
      clear h3 hc
      cases bo
      ·have HV := Lib.hid (HNo.out (by rw [HE.out, HO.out]; rfl))
       go_wp2_with (go_at_call 52; ((with_reducible refine (CL.out _ _ _ _).mono ?_); rintro e w5 ⟨rfl, b5⟩; have HB4 := Lib.hid (below_next HB4.out b5); have HK4 := Lib.hid (below_block b5 HK4.out); obtain ⟨⟨x0, x1, x2, x3, x4⟩, xz⟩ := five_cells HK4.out; clear b5))
       go_ret2
       exact ItsIs.bad HV.out ⟨_, _, _, rfl, below_next HBk.out HB4.out⟩
      ·have HV := Lib.hid (HYes.out (i0, i1, i2, i3, i4) (by rw [HE.out, HO.out]; rfl))
       go_wp2_with (first | (go_at_call 52; ((with_reducible refine (CL.out _ _ _ _).mono ?_); rintro e w5 ⟨rfl, b5⟩; have HB4 := Lib.hid (below_next HB4.out b5); have HK4 := Lib.hid (below_block b5 HK4.out); obtain ⟨⟨x0, x1, x2, x3, x4⟩, xz⟩ := five_cells HK4.out; clear b5)) | (at_builtin; refine app_itm rfl _ _ rfl rfl (Rl.Gr.next keeps_it HG.out HB4.out) (i0, i1, i2, i3, i4) _ _ rfl (by omega) ?_; intro v' w6 H6; have HG6 := Lib.hid H6; clear H6))
       go_roundw
       case rel => exact ⟨k + 1, _, by omega, by go_num, (by rw [List.length_append]; simp; omega), HV, HG6⟩
       case measure => simp [RowKit.intOf]; omega
    ·have e3 : (kd == 3) = false := beq_false_of_ne h3
     rw [if_neg (fun c => h3 c.2.1)] at HE
     clear h3
     cases bo
     ·have HV := Lib.hid (HNo.out (by rw [HE.out, HO.out]; rfl))
      go_wp2_with fail
      go_ret2
      exact ItsIs.bad HV.out ⟨_, _, _, rfl, below_next HBk.out HB4.out⟩
     ·have HV := Lib.hid (HYes.out (i0, i1, i2, i3, i4) (by rw [HE.out, HO.out]; rfl))
      go_wp2_with (at_builtin; refine app_itm rfl _ _ rfl rfl (Rl.Gr.next keeps_it HG.out HB4.out) (i0, i1, i2, i3, i4) _ _ rfl (by omega) ?_; intro v' w6 H6; have HG6 := Lib.hid H6; clear H6)
      go_roundw
      case rel => exact ⟨k + 1, _, by omega, by go_num, (by rw [List.length_append]; simp; omega), HV, HG6⟩
      case measure => simp [RowKit.intOf]; omega
  ·obtain rfl : k = P.length := by omega
   have HS2 := HS.out
   rw [List.take_length] at HS2
   cases out with
   | nil =>
     have HV : Hid (some_ (seqO (ritF own) P) = none) := Lib.hid (by rw [HS2]; rfl)
     obtain ⟨A9, c9, rfl, hc9, hC9, hT9⟩ := HG.out.form
     clear HS HS2 HOK
     go_wp2_with fail
     go_ret2
     exact ItsIs.bad HV.out ⟨_, _, _, rfl, HBk.out⟩
   | cons it out =>
     have HV : Hid (some_ (seqO (ritF own) P) = some (it :: out)) := Lib.hid (by rw [HS2]; rfl)
     obtain ⟨A9, c9, rfl, hc9, hC9, hT9⟩ := HG.out.form
     have hpos : (0 : Int) < ((it :: out).length : Int) := by simp
     clear HS HS2 HOK
     go_wp2_with fail
     go_ret2
     exact ItsIs.ok HV.out ⟨A9, c9, rfl, hc9, hC9, hT9, HBk.out⟩
end Go.Proofs.Ytaofkaehhikfaaa
namespace Go.Proofs.Ytaofkaehhikfaaa
open Go.RowKit Vl
namespace Vl
def NoC (w : World) (e : Ending) (w' : World) : Prop := ∃ (A : Option Addr) (c : Nat), e = .returned (.tuple #[.slice A 0 c, .bool false]) /\ Below w.heap.size w w'
def ItsC (o : Option (List Itm)) (w : World) (e : Ending) (w' : World) : Prop := (∀ l, o = some l -> ToldI l w e w') /\ (o = none -> NoC w e w')
theorem ItsC.bad {o : Option (List Itm)} {w : World} {e : Ending} {w' : World} (ho : o = none) (h : NoC w e w') : ItsC o w e w' := ⟨fun _ hp => by (rw [ho] at hp; cases hp), fun _ => h⟩
theorem ItsC.ok {o : Option (List Itm)} {l : List Itm} {w : World} {e : Ending} {w' : World} (ho : o = some l) (h : ToldI l w e w') : ItsC o w e w' := ⟨fun _ hp => by (rw [ho] at hp; injection hp with hp; subst hp; exact h), fun hp => by (rw [ho] at hp; cases hp)⟩
end Vl
theorem citems_any (own : Bool) (L : List Tk.Tok) (hm : L.length <= 1000) (hs : ∀ x ∈ L, x.2.1.size <= 90000) (A C : Option Addr) (c d : Nat) (a z : Nat) (ha : a <= L.length) (hz : z <= L.length) (M b1 b2 : Nat) (w : World) (h : Vt w L A C c d) (hkn : Kn own M b1 b2 w) :
 Calls Try.prog 36 #[vtV A C L.length c d, .int .i64 a, .int .i64 z, .map (some M)] w (ItsC (some_ (seqO (itmAt own L) (Ns.plc (Ns.ends L) z a))) w) := by
 obtain ⟨W0, hW, hb0, k0, hlt0⟩ := vt_boxed w A C L.length c d
 have hel := Ns.ends_len L
 have HB0 := Lib.hid hb0
 have HP := Lib.hid k0
 have HW := Lib.hid hW
 have CI : Hid (∀ (x : Nat) W, x < L.length -> Below W0.heap.size W0 W -> Calls Try.prog 63 #[vtV A C L.length c d, .int .i64 x, .map (some M)] W (ItIs (itmAt own L x) W)) := Lib.hid fun x W hx hb =>
  citem_any own L hm hs A C c d x hx M b1 b2 W ((h.next hb0).next hb) ((hkn.next hb0).next hb)
 have CK : Hid (∀ (x : Nat) W, x < L.length -> Below W0.heap.size W0 W -> Calls Try.prog 55 #[.slice C L.length d, .int .i64 x] W (Nu ((Ns.sk (Ns.ends L) x : Nat) : Int) W)) := Lib.hid fun x W hx hb => by
  have := skipC _ (Ns.ends_fit (ts := L) (by omega)) (Ns.ends_lead L) C d x (by omega) W ((h.next hb0).next hb).es
  rw [hel] at this
  rw [Ns.sk_eq]; exact this
 have HSL : Hid (∀ x, x < L.length -> Ns.sk (Ns.ends L) x <= L.length) := Lib.hid fun x hx => by
  have := Ns.sk_le (es := Ns.ends L) (a := x) (by omega)
  omega
 clear hb0 k0 hW h hkn hel hs
 generalize Ns.ends L = es at *
 generalize itmAt own L = f at *
 go_enter Try.func36, Try.ntmps36
 go_upto_region 1 with fail
 rw [HW.out]
 clear HW
 go_upto_region 3 with fail
 go_loopw [10, 11] (fun v10 v11 wr => ∃ (k : Nat) (out : List Itm), k <= L.length /\ v11 = .int .i64 k /\ out.length + a <= k /\ Hid (seqO f (Ns.plc es z a) = (seqO f (Ns.plc es z k)).map (out ++ ·)) /\ Hid (GrI W0 v10 out wr)) (fun _ v11 _ => L.length + 1 - (RowKit.intOf v11).toNat)
 case atStart => exact ⟨a, [], ha, rfl, by simp, Lib.hid (by cases seqO f (Ns.plc es z a) <;> rfl), Lib.hid (Rl.Gr.start (Below.refl _ _))⟩
 case round =>
  obtain ⟨k, out, hk, rfl, hol, HS, HG⟩ := hrel
  have HBk := Lib.hid HG.out.bel
  have HPk := Lib.hid (below_block HBk.out HP.out)
  obtain ⟨p0, p1⟩ := two_cells HPk.out
  have hltk : w.heap.size < wr.heap.size := Nat.lt_of_lt_of_le hlt0 HBk.out.size
  by_cases hlt : k < z
  ·have CI2 := Lib.hid (CI.out k wr (by omega) HBk.out)
   have hgt := Ns.sk_gt es k
   have hle := HSL.out k (by omega)
   have HPL : Hid (Ns.plc es z k = k :: Ns.plc es z (Ns.sk es k)) := Lib.hid (Ns.plc_on hlt)
   have CK2 : Hid (∀ W, Below W0.heap.size W0 W -> Calls Try.prog 55 #[.slice C L.length d, .int .i64 k] W (Nu ((Ns.sk es k : Nat) : Int) W)) := Lib.hid fun W hb => CK.out k W (by omega) hb
   rw [HPL.out, seqO_cons] at HS
   clear HPL
   generalize Ns.sk es k = nx at *
   generalize f k = rf at *
   go_upto_region 6 with (go_at_call 63; ((with_reducible refine (CI2.out).mono ?_); rintro e w2 ⟨⟨i0, i1, i2, i3, i4⟩, bo, rfl, b2, ho⟩; have HO := Lib.hid ho; have HB2 := Lib.hid b2; clear ho b2))
   have k3 := heap_alloc_new w2 (itO i0 i1 i2 i3 i4)
   have b3 := (Below.refl w2.heap.size w2).alloc (Nat.le_refl _) (itO i0 i1 i2 i3 i4)
   have hlt3 : w2.heap.size < (w2.alloc (itO i0 i1 i2 i3 i4)).heap.size := by simp
   generalize w2.alloc (itO i0 i1 i2 i3 i4) = w3 at k3 b3 hlt3 ⊢
   have HB3 := Lib.hid (below_next HB2.out b3)
   obtain ⟨⟨x0, x1, x2, x3, x4⟩, xz⟩ := five_cells k3
   clear k3 b3 HB2 CI2
   cases bo
   ·have HV : Hid (some_ (seqO f (Ns.plc es z a)) = none) := Lib.hid (by rw [HS.out, HO.out]; rfl)
    go_wp2_with fail
    go_ret2
    exact ItsC.bad HV.out ⟨_, _, rfl, below_next HB0.out (below_next HBk.out HB3.out)⟩
   ·have HS2 : Hid (seqO f (Ns.plc es z a) = (seqO f (Ns.plc es z nx)).map ((out ++ [(i0, i1, i2, i3, i4)]) ++ ·)) := Lib.hid (by
     rw [HS.out, HO.out]
     show Option.map _ (Option.map _ _) = _
     cases seqO f (Ns.plc es z nx) <;> simp)
    have q0 := two_cells (below_block HB3.out HPk.out)
    obtain ⟨s0, s1⟩ := q0
    clear HS HO
    go_wp2_with (first | (at_builtin; refine app_itm rfl _ _ rfl rfl (Rl.Gr.next keeps_it HG.out HB3.out) (i0, i1, i2, i3, i4) _ _ rfl (by omega) ?_; intro v' w6 H6; have HG6 := Lib.hid H6; obtain ⟨t0, t1⟩ := two_cells (below_block H6.bel HP.out); have hlt6 := Nat.lt_of_lt_of_le hlt0 H6.bel.size; clear H6) | (go_at_call 55; ((with_reducible refine (CK2.out _ HG6.out.bel).mono ?_); rintro e w7 ⟨rfl, b7⟩; have HG7 := Lib.hid (Rl.Gr.next keeps_it HG6.out b7); clear b7)))
    go_roundw
    case rel => exact ⟨nx, _, by omega, by go_num, (by rw [List.length_append]; simp; omega), HS2, HG7⟩
    case measure => simp [RowKit.intOf]; omega
  ·have HS2 : Hid (seqO f (Ns.plc es z a) = some out) := Lib.hid (by rw [HS.out, Ns.plc_end hlt]; simp [seqO])
   cases out with
   | nil =>
     have HV : Hid (some_ (seqO f (Ns.plc es z a)) = none) := Lib.hid (by rw [HS2.out]; rfl)
     obtain ⟨A9, c9, rfl, hc9, hC9, hT9⟩ := HG.out.form
     clear HS HS2
     go_wp2_with fail
     go_ret2
     exact ItsC.bad HV.out ⟨_, _, rfl, below_next HB0.out HBk.out⟩
   | cons it out =>
     have HV : Hid (some_ (seqO f (Ns.plc es z a)) = some (it :: out)) := Lib.hid (by rw [HS2.out]; rfl)
     obtain ⟨A9, c9, rfl, hc9, hC9, hT9⟩ := HG.out.form
     have hpos : (0 : Int) < ((it :: out).length : Int) := by simp
     clear HS HS2
     go_wp2_with fail
     go_ret2
     exact ItsC.ok HV.out ⟨A9, c9, rfl, hc9, hC9, hT9, below_next HB0.out HBk.out⟩
end Go.Proofs.Ytaofkaehhikfaaa
