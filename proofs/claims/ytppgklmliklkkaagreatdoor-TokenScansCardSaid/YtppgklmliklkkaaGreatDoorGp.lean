/-
  The walk of the reference's Next token.
-/
import Derived.Test.YtppgklmliklkkaaGreatDoorGo
import Derived.Test.YtppgklmliklkkaaGreatDoorGn
import Derived.Test.YtppgklmliklkkaaGreatDoorGf
import Derived.Lib.Strings
namespace Go.Proofs.YtppgklmliklkkaaGreatDoor
open Go.RowKit


/-- the reference's Parse, in one word -/
def Pv (v : Int) (w : World) (e : Ending) (w' : World) : Prop := ∃ ok : Bool, e = .returned (.tuple #[.int .i64 v, .bool ok]) ∧ Below w.heap.size w w'
theorem rparse_pv (s : ByteArray) (w : World) (hs : s.size ≤ 100000) : Calls Tryz.prog 40 #[.string s] w (Pv (Tk.pv s.data.toList) w) := by
  cases hd : Fx.isDec s.data.toList
  · refine (rparse_no s w hs hd).mono ?_
    rintro e w' ⟨he, hb⟩
    exact ⟨false, by rw [he]; unfold Tk.pv; rw [if_neg (by rw [hd]; decide)], hb⟩
  · refine (rparse_yes s w hs hd).mono ?_
    rintro e w' ⟨he, hb⟩
    exact ⟨true, by rw [he]; unfold Tk.pv; rw [if_pos hd], hb⟩

/-- what the walk of Next knows of a world -/
def Now (w : World) (v : World) : Prop := Below (w.heap.size + 1) (w.alloc zeroTok) v
theorem Now.refl (w : World) : Now w (w.alloc zeroTok) := Below.refl _ _
theorem Now.next {w v v' : World} (h : Now w v) (h2 : Below v.heap.size v v') : Now w v' := quo_below h h2
theorem Now.on {w v : World} {l : List Int} {b off : Nat} (h : Now w v) (hb : b < w.heap.size) (hp : On w l b off) : On v l b off := fun j hj => (h.cell (p := ⟨b, off + j, none⟩) (by show b < _; omega)).trans ((World.cell?_alloc_lt w _ _ (by exact hb)).trans (hp j hj))
theorem Now.lt {w v : World} {b : Nat} (h : Now w v) (hb : b < w.heap.size) : b < v.heap.size := by have := quo_size h; omega
theorem nexted0 {r : Int × ByteArray × Int × Nat} {kind n : Int} {t : ByteArray} {x : Int} {k : Nat} {w : World} (hr : r = (kind, t, n, k)) (hx : x = k) (o : Obj) :
    Tokened r.1 r.2.1 r.2.2.1 r.2.2.2 w (.returned (.tuple #[tokV kind t n, .int .i64 x])) (w.alloc o) := by
  subst hr; subst hx
  exact ⟨rfl, (Below.refl _ w).alloc (Nat.le_refl _) _⟩
/-- a token's ending, out of what is told of it -/
def Nexted (r : Int × ByteArray × Int × Nat) (w : World) (e : Ending) (w' : World) : Prop := Tokened r.1 r.2.1 r.2.2.1 r.2.2.2 w e w'
theorem nexted {r : Int × ByteArray × Int × Nat} {kind n : Int} {t : ByteArray} {x : Int} {k : Nat} {w w2 : World} (hr : r = (kind, t, n, k)) (hx : x = k) (h : Now w w2) (a b c : Value) :
    Nexted r w (.returned (.tuple #[tokV kind t n, .int .i64 x])) (((w2.setCell ⟨w.heap.size, 0, none⟩ a).setCell ⟨w.heap.size, 1, none⟩ b).setCell ⟨w.heap.size, 2, none⟩ c) := by
  subst hr; subst hx
  exact ⟨rfl, tok_below h _ _ _⟩

set_option maxHeartbeats 4000000 in
set_option maxRecDepth 100000 in
theorem tnext_quote (l : List Int) (k : Nat) (b off cap : Nat) (w : World) (hm : l.length ≤ 65000) (hk : k < l.length) (_hN : ∀ c ∈ l, 0 ≤ c) (hb : b < w.heap.size) (hp : On w l b off) (hc : Ru.g l k = 34 ∨ Ru.g l k = 39) :
    Calls Tryz.prog 14 #[.slice (some ⟨b, off, none⟩) l.length cap, .int .i64 k] w (Nexted (Tk.nxt l k) w) := by
  have HD := Lib.hid (show Tk.nxt l k = ((Tk.qq l (Ru.g l k) (k + 1)).1, Tk.str (Tk.qq l (Ru.g l k) (k + 1)).2.1, 0, (Tk.qq l (Ru.g l k) (k + 1)).2.2) by unfold Tk.nxt; rw [if_pos hc])
  have hn := Now.refl w
  have hcell := hp k hk
  have CQ := Lib.hid (tquoted_any l k b off cap (w.alloc zeroTok) hm hk (hn.lt hb) (hn.on hb hp))
  clear hp
  generalize Tk.qq l (Ru.g l k) (k + 1) = q at *
  obtain ⟨q1, q2, q3⟩ := q
  simp only at HD CQ
  rw [HD.out]
  generalize Ru.g l k = c at *
  rcases hc with rfl | rfl
  all_goals
    go_enter Tryz.func14, Tryz.ntmps14
    go_wp2_with (go_at_call 34; ((with_reducible refine (CQ.out).mono ?_); rintro e w2 ⟨he, b2⟩; unfold tokV at he; subst he; have hb2 := hn.next b2; obtain ⟨z0, z1, z2, f0, f1, f2⟩ := tok_cells hb2))
    refine bodyPost_ret (v := .tuple #[tokV q1 (Tk.str q2) 0, .int .i64 q3]) (by simp [results, tokV, Tryz.results14, go_sem, z0, z1, z2]) rfl (nexted rfl rfl hb2 _ _ _)

set_option maxHeartbeats 4000000 in
set_option maxRecDepth 100000 in
theorem tnext_hash (l : List Int) (k : Nat) (b off cap : Nat) (w : World) (hm : l.length ≤ 65000) (hk : k < l.length) (hN : ∀ c ∈ l, 0 ≤ c) (hb : b < w.heap.size) (hp : On w l b off) (hc : Ru.g l k = 35) (hh : Ru.witB (Tk.at' l (k + 1)) = true ∨ Tk.esc l (k + 1) = true) :
    Calls Tryz.prog 14 #[.slice (some ⟨b, off, none⟩) l.length cap, .int .i64 k] w (Nexted (Tk.nxt l k) w) := by
  have HD := Lib.hid (show Tk.nxt l k = (5, Tk.str (Tk.name l (k + 1)).1, 0, (Tk.name l (k + 1)).2) by unfold Tk.nxt; rw [if_neg (by omega), if_pos ⟨hc, hh⟩])
  have hn : Now w (w.alloc (.cells #[.int .i64 0, .string ⟨#[]⟩, .int .i64 0] 31)) := Now.refl w
  have hcell := hp k hk
  have HP := Lib.hid hp
  have CA : Hid (∀ wr, Now w wr → AtIs l b off cap wr) := Lib.hid fun wr h => (at_is l b off cap wr (by omega) (h.on hb HP.out)).out
  have CE : Hid (∀ wr, Now w wr → EscIs l b off cap wr) := Lib.hid fun wr h => (esc_is l b off cap wr (by omega) (h.on hb HP.out)).out
  have CB : Hid (∀ wr, Now w wr → BegsIs l b off cap wr) := Lib.hid fun wr h => (begs_is l b off cap wr (by omega) (h.on hb HP.out)).out
  have CN : Hid (∀ wr, Now w wr → ∀ (x : Int) (j : Nat), x = j → j ≤ l.length → Calls Tryz.prog 37 #[.slice (some ⟨b, off, none⟩) l.length cap, .int .i64 x] wr (Named l j wr)) := Lib.hid fun wr h x j hx hj => tname_any l x j hx b off cap wr (by omega) hj (h.lt hb) (h.on hb HP.out)
  have CS := Lib.hid (tascii_any l k b off cap (w.alloc (.cells #[.int .i64 0, .string ⟨#[]⟩, .int .i64 0] 31)) (by omega) (by omega) hN (hn.lt hb) (hn.on hb hp))
  have CL : Hid (∀ wr, Calls Tryz.prog 39 #[.string (strOfNums (Tk.ascL l k))] wr fun e w' => e = .returned (.int .i64 (Tk.nlen l k : Nat)) ∧ wr = w') := rlength_is _ (by have := Tk.ascL_len l k; rw [strOfNums_size]; omega)
  clear hp hN
  rw [hc] at hcell
  rw [HD.out]
  have hR3 : True = True := rfl
  cases hR1 : Ru.witB (Tk.at' l (k + 1))
  · have hR2 : Tk.esc l (k + 1) = true := by rw [hR1] at hh; exact hh.resolve_left (by decide)
    go_enter Tryz.func14, Tryz.ntmps14
    go_wp2_with (first | (go_at_call 33; have X := CA.out _ hn _ _ (cast1 k); (with_reducible refine X.mono ?_); clear X; rintro e w' ⟨he, rfl⟩; (first | rw [hR1] at he | rw [hR2] at he | rw [hR3] at he | skip); subst he) | (go_at_call 35; have X := rwithin_any (Tk.at' l (k + 1)) (w.alloc (.cells #[.int .i64 0, .string ⟨#[]⟩, .int .i64 0] 31)); (with_reducible refine X.mono ?_); clear X; rintro e w' ⟨he, rfl⟩; (first | rw [hR1] at he | rw [hR2] at he | rw [hR3] at he | skip); subst he) | (go_at_call 36; have X := CE.out _ hn _ _ (cast1 k) (by omega); (with_reducible refine X.mono ?_); clear X; rintro e w' ⟨he, rfl⟩; (first | rw [hR1] at he | rw [hR2] at he | rw [hR3] at he | skip); subst he) | (go_at_call 37; have X := CN.out _ hn _ _ (cast1 k) (by omega); (with_reducible refine X.mono ?_); clear X; rintro e w2 ⟨he, b2⟩; (first | rw [hR1] at he | rw [hR2] at he | rw [hR3] at he | skip); subst he; have hb2 := hn.next b2; obtain ⟨z0, z1, z2, f0, f1, f2⟩ := tok_cells hb2))
    refine bodyPost_ret (v := .tuple #[tokV (5) (Tk.str (Tk.name l (k + 1)).1) (0), .int .i64 (((Tk.name l (k + 1)).2 : Nat))]) (by simp [results, tokV, Tryz.results14, go_sem, z0, z1, z2]) rfl (nexted rfl rfl hb2 _ _ _)
  · have hR2 : True = True := rfl
    go_enter Tryz.func14, Tryz.ntmps14
    go_wp2_with (first | (go_at_call 33; have X := CA.out _ hn _ _ (cast1 k); (with_reducible refine X.mono ?_); clear X; rintro e w' ⟨he, rfl⟩; (first | rw [hR1] at he | rw [hR2] at he | rw [hR3] at he | skip); subst he) | (go_at_call 35; have X := rwithin_any (Tk.at' l (k + 1)) (w.alloc (.cells #[.int .i64 0, .string ⟨#[]⟩, .int .i64 0] 31)); (with_reducible refine X.mono ?_); clear X; rintro e w' ⟨he, rfl⟩; (first | rw [hR1] at he | rw [hR2] at he | rw [hR3] at he | skip); subst he) | (go_at_call 37; have X := CN.out _ hn _ _ (cast1 k) (by omega); (with_reducible refine X.mono ?_); clear X; rintro e w2 ⟨he, b2⟩; (first | rw [hR1] at he | rw [hR2] at he | rw [hR3] at he | skip); subst he; have hb2 := hn.next b2; obtain ⟨z0, z1, z2, f0, f1, f2⟩ := tok_cells hb2))
    refine bodyPost_ret (v := .tuple #[tokV (5) (Tk.str (Tk.name l (k + 1)).1) (0), .int .i64 (((Tk.name l (k + 1)).2 : Nat))]) (by simp [results, tokV, Tryz.results14, go_sem, z0, z1, z2]) rfl (nexted rfl rfl hb2 _ _ _)

set_option maxHeartbeats 4000000 in
set_option maxRecDepth 100000 in
theorem tnext_atkey (l : List Int) (k : Nat) (b off cap : Nat) (w : World) (hm : l.length ≤ 65000) (hk : k < l.length) (hN : ∀ c ∈ l, 0 ≤ c) (hb : b < w.heap.size) (hp : On w l b off) (hc : Ru.g l k = 64) (hR1 : Tk.begs l (k + 1) = true) :
    Calls Tryz.prog 14 #[.slice (some ⟨b, off, none⟩) l.length cap, .int .i64 k] w (Nexted (Tk.nxt l k) w) := by
  have HD := Lib.hid (show Tk.nxt l k = (4, Tk.str (Tk.name l (k + 1)).1, 0, (Tk.name l (k + 1)).2) by rw [Tk.nxt_past ⟨by omega, by omega, fun h => by omega, fun h => by rw [hc] at h; exact absurd h (by decide)⟩]; unfold Tk.rest; rw [if_pos ⟨hc, hR1⟩])
  have hn : Now w (w.alloc (.cells #[.int .i64 0, .string ⟨#[]⟩, .int .i64 0] 31)) := Now.refl w
  have hcell := hp k hk
  have HP := Lib.hid hp
  have CA : Hid (∀ wr, Now w wr → AtIs l b off cap wr) := Lib.hid fun wr h => (at_is l b off cap wr (by omega) (h.on hb HP.out)).out
  have CE : Hid (∀ wr, Now w wr → EscIs l b off cap wr) := Lib.hid fun wr h => (esc_is l b off cap wr (by omega) (h.on hb HP.out)).out
  have CB : Hid (∀ wr, Now w wr → BegsIs l b off cap wr) := Lib.hid fun wr h => (begs_is l b off cap wr (by omega) (h.on hb HP.out)).out
  have CN : Hid (∀ wr, Now w wr → ∀ (x : Int) (j : Nat), x = j → j ≤ l.length → Calls Tryz.prog 37 #[.slice (some ⟨b, off, none⟩) l.length cap, .int .i64 x] wr (Named l j wr)) := Lib.hid fun wr h x j hx hj => tname_any l x j hx b off cap wr (by omega) hj (h.lt hb) (h.on hb HP.out)
  have CS := Lib.hid (tascii_any l k b off cap (w.alloc (.cells #[.int .i64 0, .string ⟨#[]⟩, .int .i64 0] 31)) (by omega) (by omega) hN (hn.lt hb) (hn.on hb hp))
  have CL : Hid (∀ wr, Calls Tryz.prog 39 #[.string (strOfNums (Tk.ascL l k))] wr fun e w' => e = .returned (.int .i64 (Tk.nlen l k : Nat)) ∧ wr = w') := rlength_is _ (by have := Tk.ascL_len l k; rw [strOfNums_size]; omega)
  clear hp hN
  have hR2 : True = True := rfl
  have hR3 : True = True := rfl
  rw [hc] at hcell
  rw [HD.out]
  go_enter Tryz.func14, Tryz.ntmps14
  go_wp2_with (first | (go_at_call 41; have X := CB.out _ hn _ _ (cast1 k) (by omega); (with_reducible refine X.mono ?_); clear X; rintro e w' ⟨he, rfl⟩; (first | rw [hR1] at he | rw [hR2] at he | rw [hR3] at he | skip); subst he) | (go_at_call 37; have X := CN.out _ hn _ _ (cast1 k) (by omega); (with_reducible refine X.mono ?_); clear X; rintro e w2 ⟨he, b2⟩; (first | rw [hR1] at he | rw [hR2] at he | rw [hR3] at he | skip); subst he; have hb2 := hn.next b2; obtain ⟨z0, z1, z2, f0, f1, f2⟩ := tok_cells hb2))
  refine bodyPost_ret (v := .tuple #[tokV (4) (Tk.str (Tk.name l (k + 1)).1) (0), .int .i64 (((Tk.name l (k + 1)).2 : Nat))]) (by simp [results, tokV, Tryz.results14, go_sem, z0, z1, z2]) rfl (nexted rfl rfl hb2 _ _ _)
end Go.Proofs.YtppgklmliklkkaaGreatDoor

/-
  The walk of Next: a name.
-/
namespace Go.Proofs.YtppgklmliklkkaaGreatDoor
open Go.RowKit

set_option maxHeartbeats 4000000 in
set_option maxRecDepth 100000 in
theorem tnext_name (l : List Int) (k : Nat) (b off cap : Nat) (w : World) (hm : l.length ≤ 65000) (hk : k < l.length) (hN : ∀ c ∈ l, 0 ≤ c) (hb : b < w.heap.size) (hp : On w l b off) (hpast : Tk.Past l k) (hR1 : Tk.begs l k = true) (hc64 : Ru.g l k = 64 → Tk.begs l (k + 1) = false) :
    Calls Tryz.prog 14 #[.slice (some ⟨b, off, none⟩) l.length cap, .int .i64 k] w (Nexted (Tk.nxt l k) w) := by
  have HD := Lib.hid (show Tk.nxt l k = if Tk.at' l (Tk.name l k).2 = 40 then (3, Tk.str (Tk.name l k).1, 0, (Tk.name l k).2 + 1) else (2, Tk.str (Tk.name l k).1, 0, (Tk.name l k).2) by rw [Tk.nxt_past hpast]; unfold Tk.rest; rw [if_neg (fun h => by have := hc64 h.1; rw [this] at h; exact absurd h.2 (by decide)), if_pos hR1])
  have hn : Now w (w.alloc (.cells #[.int .i64 0, .string ⟨#[]⟩, .int .i64 0] 31)) := Now.refl w
  have hcell := hp k hk
  have HP := Lib.hid hp
  have CA : Hid (∀ wr, Now w wr → AtIs l b off cap wr) := Lib.hid fun wr h => (at_is l b off cap wr (by omega) (h.on hb HP.out)).out
  have CE : Hid (∀ wr, Now w wr → EscIs l b off cap wr) := Lib.hid fun wr h => (esc_is l b off cap wr (by omega) (h.on hb HP.out)).out
  have CB : Hid (∀ wr, Now w wr → BegsIs l b off cap wr) := Lib.hid fun wr h => (begs_is l b off cap wr (by omega) (h.on hb HP.out)).out
  have CN : Hid (∀ wr, Now w wr → ∀ (x : Int) (j : Nat), x = j → j ≤ l.length → Calls Tryz.prog 37 #[.slice (some ⟨b, off, none⟩) l.length cap, .int .i64 x] wr (Named l j wr)) := Lib.hid fun wr h x j hx hj => tname_any l x j hx b off cap wr (by omega) hj (h.lt hb) (h.on hb HP.out)
  have CS := Lib.hid (tascii_any l k b off cap (w.alloc (.cells #[.int .i64 0, .string ⟨#[]⟩, .int .i64 0] 31)) (by omega) (by omega) hN (hn.lt hb) (hn.on hb hp))
  have CL : Hid (∀ wr, Calls Tryz.prog 39 #[.string (strOfNums (Tk.ascL l k))] wr fun e w' => e = .returned (.int .i64 (Tk.nlen l k : Nat)) ∧ wr = w') := rlength_is _ (by have := Tk.ascL_len l k; rw [strOfNums_size]; omega)
  clear hp hN
  have hc35 : Ru.g l k ≠ 35 := fun h => by rw [Tk.begs_not hk (.inl h)] at hR1; exact absurd hR1 (by decide)
  have hn45 := fun h => Tk.begs_num hk h hR1
  obtain ⟨h34, h39, -, hnum⟩ := hpast
  have hnm := (Tk.name_le l _ k (Nat.le_refl _) (by omega)).2
  rw [HD.out]
  clear HD
  generalize Ru.g l k = c at *
  by_cases hR3 : Tk.at' l (Tk.name l k).2 = 40
  all_goals
    (first | rw [if_pos hR3] | (rw [if_neg hR3]; have e40 := beq_false_of_ne hR3))
    cases hnb : Tk.numB c
    · obtain ⟨n1, n2, n3, n4⟩ := Tk.numB_no hnb
      by_cases h64 : c = 64
      · have hR2 := hc64 h64
        clear hc64 hn45 hnum hnb
        subst h64
        go_enter Tryz.func14, Tryz.ntmps14
        go_wp2_with (first | (go_at_call 41; have X := CB.out _ hn _ k rfl (by omega); (with_reducible refine X.mono ?_); clear X; rintro e w' ⟨he, rfl⟩; (first | rw [hR1] at he | rw [hR2] at he | rw [hR3] at he | skip); subst he) | (go_at_call 41; have X := CB.out _ hn _ _ (cast1 k) (by omega); (with_reducible refine X.mono ?_); clear X; rintro e w' ⟨he, rfl⟩; (first | rw [hR1] at he | rw [hR2] at he | rw [hR3] at he | skip); subst he) | (go_at_call 38; have X := CS.out; (with_reducible refine X.mono ?_); clear X; rintro e w1 ⟨he, b1⟩; (first | rw [hR1] at he | rw [hR2] at he | rw [hR3] at he | skip); subst he; have hn1 := hn.next b1) | (go_at_call 39; have X := CL.out w1; (with_reducible refine X.mono ?_); clear X; rintro e w' ⟨he, rfl⟩; (first | rw [hR1] at he | rw [hR2] at he | rw [hR3] at he | skip); subst he) | (go_at_call 41; have X := CB.out _ hn1 _ k rfl (by omega); (with_reducible refine X.mono ?_); clear X; rintro e w' ⟨he, rfl⟩; (first | rw [hR1] at he | rw [hR2] at he | rw [hR3] at he | skip); subst he) | (go_at_call 37; have X := CN.out _ hn _ k rfl (by omega); (with_reducible refine X.mono ?_); clear X; rintro e w2 ⟨he, b2⟩; (first | rw [hR1] at he | rw [hR2] at he | rw [hR3] at he | skip); subst he; have hb2 := hn.next b2; obtain ⟨z0, z1, z2, f0, f1, f2⟩ := tok_cells hb2) | (go_at_call 37; have X := CN.out _ hn1 _ k rfl (by omega); (with_reducible refine X.mono ?_); clear X; rintro e w2 ⟨he, b2⟩; (first | rw [hR1] at he | rw [hR2] at he | rw [hR3] at he | skip); subst he; have hb2 := hn1.next b2; obtain ⟨z0, z1, z2, f0, f1, f2⟩ := tok_cells hb2) | (go_at_call 33; have X := CA.out _ hb2 _ (Tk.name l k).2 rfl; (with_reducible refine X.mono ?_); clear X; rintro e w' ⟨he, rfl⟩; (first | rw [hR1] at he | rw [hR2] at he | rw [hR3] at he | skip); subst he))
        first | (refine bodyPost_ret (v := .tuple #[tokV (3) (Tk.str (Tk.name l k).1) (0), .int .i64 (((Tk.name l k).2 : Nat) + 1)]) (by simp [results, tokV, Tryz.results14, go_sem, z0, z1, z2]) rfl (nexted rfl (by omega) hb2 _ _ _)) | (refine bodyPost_ret (v := .tuple #[tokV (2) (Tk.str (Tk.name l k).1) (0), .int .i64 (((Tk.name l k).2 : Nat))]) (by simp [results, tokV, Tryz.results14, go_sem, z0, z1, z2]) rfl (nexted rfl rfl hb2 _ _ _))
      · have hR2 : True = True := rfl
        clear hc64 hn45 hnum hnb
        have e34 : (c == 34) = false := beq_false_of_ne (by omega)
        have e39 : (c == 39) = false := beq_false_of_ne (by omega)
        have e35 : (c == 35) = false := beq_false_of_ne (by omega)
        have e43 : (c == 43) = false := beq_false_of_ne (by omega)
        have e45 : (c == 45) = false := beq_false_of_ne (by omega)
        have e46 : (c == 46) = false := beq_false_of_ne (by omega)
        have e64 : (c == 64) = false := beq_false_of_ne (by omega)
        rcases n4 with n4 | n4
        all_goals
          go_enter Tryz.func14, Tryz.ntmps14
          go_wp2_with (first | (go_at_call 41; have X := CB.out _ hn _ k rfl (by omega); (with_reducible refine X.mono ?_); clear X; rintro e w' ⟨he, rfl⟩; (first | rw [hR1] at he | rw [hR2] at he | rw [hR3] at he | skip); subst he) | (go_at_call 41; have X := CB.out _ hn _ _ (cast1 k) (by omega); (with_reducible refine X.mono ?_); clear X; rintro e w' ⟨he, rfl⟩; (first | rw [hR1] at he | rw [hR2] at he | rw [hR3] at he | skip); subst he) | (go_at_call 38; have X := CS.out; (with_reducible refine X.mono ?_); clear X; rintro e w1 ⟨he, b1⟩; (first | rw [hR1] at he | rw [hR2] at he | rw [hR3] at he | skip); subst he; have hn1 := hn.next b1) | (go_at_call 39; have X := CL.out w1; (with_reducible refine X.mono ?_); clear X; rintro e w' ⟨he, rfl⟩; (first | rw [hR1] at he | rw [hR2] at he | rw [hR3] at he | skip); subst he) | (go_at_call 41; have X := CB.out _ hn1 _ k rfl (by omega); (with_reducible refine X.mono ?_); clear X; rintro e w' ⟨he, rfl⟩; (first | rw [hR1] at he | rw [hR2] at he | rw [hR3] at he | skip); subst he) | (go_at_call 37; have X := CN.out _ hn _ k rfl (by omega); (with_reducible refine X.mono ?_); clear X; rintro e w2 ⟨he, b2⟩; (first | rw [hR1] at he | rw [hR2] at he | rw [hR3] at he | skip); subst he; have hb2 := hn.next b2; obtain ⟨z0, z1, z2, f0, f1, f2⟩ := tok_cells hb2) | (go_at_call 37; have X := CN.out _ hn1 _ k rfl (by omega); (with_reducible refine X.mono ?_); clear X; rintro e w2 ⟨he, b2⟩; (first | rw [hR1] at he | rw [hR2] at he | rw [hR3] at he | skip); subst he; have hb2 := hn1.next b2; obtain ⟨z0, z1, z2, f0, f1, f2⟩ := tok_cells hb2) | (go_at_call 33; have X := CA.out _ hb2 _ (Tk.name l k).2 rfl; (with_reducible refine X.mono ?_); clear X; rintro e w' ⟨he, rfl⟩; (first | rw [hR1] at he | rw [hR2] at he | rw [hR3] at he | skip); subst he))
          first | (refine bodyPost_ret (v := .tuple #[tokV (3) (Tk.str (Tk.name l k).1) (0), .int .i64 (((Tk.name l k).2 : Nat) + 1)]) (by simp [results, tokV, Tryz.results14, go_sem, z0, z1, z2]) rfl (nexted rfl (by omega) hb2 _ _ _)) | (refine bodyPost_ret (v := .tuple #[tokV (2) (Tk.str (Tk.name l k).1) (0), .int .i64 (((Tk.name l k).2 : Nat))]) (by simp [results, tokV, Tryz.results14, go_sem, z0, z1, z2]) rfl (nexted rfl rfl hb2 _ _ _))
    · have h45 := hn45 hnb
      have hR2 := hnum hnb
      clear hc64 hn45 hnum hnb
      subst h45
      go_enter Tryz.func14, Tryz.ntmps14
      go_wp2_with (first | (go_at_call 41; have X := CB.out _ hn _ k rfl (by omega); (with_reducible refine X.mono ?_); clear X; rintro e w' ⟨he, rfl⟩; (first | rw [hR1] at he | rw [hR2] at he | rw [hR3] at he | skip); subst he) | (go_at_call 41; have X := CB.out _ hn _ _ (cast1 k) (by omega); (with_reducible refine X.mono ?_); clear X; rintro e w' ⟨he, rfl⟩; (first | rw [hR1] at he | rw [hR2] at he | rw [hR3] at he | skip); subst he) | (go_at_call 38; have X := CS.out; (with_reducible refine X.mono ?_); clear X; rintro e w1 ⟨he, b1⟩; (first | rw [hR1] at he | rw [hR2] at he | rw [hR3] at he | skip); subst he; have hn1 := hn.next b1) | (go_at_call 39; have X := CL.out w1; (with_reducible refine X.mono ?_); clear X; rintro e w' ⟨he, rfl⟩; (first | rw [hR1] at he | rw [hR2] at he | rw [hR3] at he | skip); subst he) | (go_at_call 41; have X := CB.out _ hn1 _ k rfl (by omega); (with_reducible refine X.mono ?_); clear X; rintro e w' ⟨he, rfl⟩; (first | rw [hR1] at he | rw [hR2] at he | rw [hR3] at he | skip); subst he) | (go_at_call 37; have X := CN.out _ hn _ k rfl (by omega); (with_reducible refine X.mono ?_); clear X; rintro e w2 ⟨he, b2⟩; (first | rw [hR1] at he | rw [hR2] at he | rw [hR3] at he | skip); subst he; have hb2 := hn.next b2; obtain ⟨z0, z1, z2, f0, f1, f2⟩ := tok_cells hb2) | (go_at_call 37; have X := CN.out _ hn1 _ k rfl (by omega); (with_reducible refine X.mono ?_); clear X; rintro e w2 ⟨he, b2⟩; (first | rw [hR1] at he | rw [hR2] at he | rw [hR3] at he | skip); subst he; have hb2 := hn1.next b2; obtain ⟨z0, z1, z2, f0, f1, f2⟩ := tok_cells hb2) | (go_at_call 33; have X := CA.out _ hb2 _ (Tk.name l k).2 rfl; (with_reducible refine X.mono ?_); clear X; rintro e w' ⟨he, rfl⟩; (first | rw [hR1] at he | rw [hR2] at he | rw [hR3] at he | skip); subst he))
      first | (refine bodyPost_ret (v := .tuple #[tokV (3) (Tk.str (Tk.name l k).1) (0), .int .i64 (((Tk.name l k).2 : Nat) + 1)]) (by simp [results, tokV, Tryz.results14, go_sem, z0, z1, z2]) rfl (nexted rfl (by omega) hb2 _ _ _)) | (refine bodyPost_ret (v := .tuple #[tokV (2) (Tk.str (Tk.name l k).1) (0), .int .i64 (((Tk.name l k).2 : Nat))]) (by simp [results, tokV, Tryz.results14, go_sem, z0, z1, z2]) rfl (nexted rfl rfl hb2 _ _ _))
end Go.Proofs.YtppgklmliklkkaaGreatDoor

/-
  The walk of Next: colon, semicolon, comma.
-/
namespace Go.Proofs.YtppgklmliklkkaaGreatDoor
open Go.RowKit

set_option maxHeartbeats 4000000 in
set_option maxRecDepth 100000 in
theorem tnext_colon (l : List Int) (k : Nat) (b off cap : Nat) (w : World) (hm : l.length ≤ 65000) (hk : k < l.length) (hN : ∀ c ∈ l, 0 ≤ c) (hb : b < w.heap.size) (hp : On w l b off) (hc : Ru.g l k = 58) :
    Calls Tryz.prog 14 #[.slice (some ⟨b, off, none⟩) l.length cap, .int .i64 k] w (Nexted (Tk.nxt l k) w) := by
  have hR1 : Tk.begs l k = false := Tk.begs_not hk (by omega)
  have HD := Lib.hid (show Tk.nxt l k = (14, ⟨#[]⟩, 0, k + 1) by rw [Tk.nxt_past ⟨by omega, by omega, fun h => by omega, fun h => by rw [hc] at h; exact absurd h (by decide)⟩]; unfold Tk.rest; rw [if_neg (fun h => by omega), if_neg (by rw [hR1]; decide), if_pos hc])
  have hn : Now w (w.alloc (.cells #[.int .i64 0, .string ⟨#[]⟩, .int .i64 0] 31)) := Now.refl w
  have hcell := hp k hk
  have HP := Lib.hid hp
  have CA : Hid (∀ wr, Now w wr → AtIs l b off cap wr) := Lib.hid fun wr h => (at_is l b off cap wr (by omega) (h.on hb HP.out)).out
  have CE : Hid (∀ wr, Now w wr → EscIs l b off cap wr) := Lib.hid fun wr h => (esc_is l b off cap wr (by omega) (h.on hb HP.out)).out
  have CB : Hid (∀ wr, Now w wr → BegsIs l b off cap wr) := Lib.hid fun wr h => (begs_is l b off cap wr (by omega) (h.on hb HP.out)).out
  have CN : Hid (∀ wr, Now w wr → ∀ (x : Int) (j : Nat), x = j → j ≤ l.length → Calls Tryz.prog 37 #[.slice (some ⟨b, off, none⟩) l.length cap, .int .i64 x] wr (Named l j wr)) := Lib.hid fun wr h x j hx hj => tname_any l x j hx b off cap wr (by omega) hj (h.lt hb) (h.on hb HP.out)
  have CS := Lib.hid (tascii_any l k b off cap (w.alloc (.cells #[.int .i64 0, .string ⟨#[]⟩, .int .i64 0] 31)) (by omega) (by omega) hN (hn.lt hb) (hn.on hb hp))
  have CL : Hid (∀ wr, Calls Tryz.prog 39 #[.string (strOfNums (Tk.ascL l k))] wr fun e w' => e = .returned (.int .i64 (Tk.nlen l k : Nat)) ∧ wr = w') := rlength_is _ (by have := Tk.ascL_len l k; rw [strOfNums_size]; omega)
  clear hp hN
  have hR2 : True = True := rfl
  have hR3 : True = True := rfl
  rw [hc] at hcell
  rw [HD.out]
  go_enter Tryz.func14, Tryz.ntmps14
  go_wp2_with (first | (go_at_call 41; have X := CB.out _ hn _ k rfl (by omega); (with_reducible refine X.mono ?_); clear X; rintro e w' ⟨he, rfl⟩; (first | rw [hR1] at he | rw [hR2] at he | rw [hR3] at he | skip); subst he))
  refine bodyPost_ret (v := .tuple #[tokV (14) (⟨#[]⟩) (0), .int .i64 ((k : Int) + 1)]) (by simp [results, tokV, Tryz.results14, go_sem]) rfl (nexted0 rfl (by omega) _)

set_option maxHeartbeats 4000000 in
set_option maxRecDepth 100000 in
theorem tnext_semi (l : List Int) (k : Nat) (b off cap : Nat) (w : World) (hm : l.length ≤ 65000) (hk : k < l.length) (hN : ∀ c ∈ l, 0 ≤ c) (hb : b < w.heap.size) (hp : On w l b off) (hc : Ru.g l k = 59) :
    Calls Tryz.prog 14 #[.slice (some ⟨b, off, none⟩) l.length cap, .int .i64 k] w (Nexted (Tk.nxt l k) w) := by
  have hR1 : Tk.begs l k = false := Tk.begs_not hk (by omega)
  have HD := Lib.hid (show Tk.nxt l k = (15, ⟨#[]⟩, 0, k + 1) by rw [Tk.nxt_past ⟨by omega, by omega, fun h => by omega, fun h => by rw [hc] at h; exact absurd h (by decide)⟩]; unfold Tk.rest; rw [if_neg (fun h => by omega), if_neg (by rw [hR1]; decide), if_neg (by omega), if_pos hc])
  have hn : Now w (w.alloc (.cells #[.int .i64 0, .string ⟨#[]⟩, .int .i64 0] 31)) := Now.refl w
  have hcell := hp k hk
  have HP := Lib.hid hp
  have CA : Hid (∀ wr, Now w wr → AtIs l b off cap wr) := Lib.hid fun wr h => (at_is l b off cap wr (by omega) (h.on hb HP.out)).out
  have CE : Hid (∀ wr, Now w wr → EscIs l b off cap wr) := Lib.hid fun wr h => (esc_is l b off cap wr (by omega) (h.on hb HP.out)).out
  have CB : Hid (∀ wr, Now w wr → BegsIs l b off cap wr) := Lib.hid fun wr h => (begs_is l b off cap wr (by omega) (h.on hb HP.out)).out
  have CN : Hid (∀ wr, Now w wr → ∀ (x : Int) (j : Nat), x = j → j ≤ l.length → Calls Tryz.prog 37 #[.slice (some ⟨b, off, none⟩) l.length cap, .int .i64 x] wr (Named l j wr)) := Lib.hid fun wr h x j hx hj => tname_any l x j hx b off cap wr (by omega) hj (h.lt hb) (h.on hb HP.out)
  have CS := Lib.hid (tascii_any l k b off cap (w.alloc (.cells #[.int .i64 0, .string ⟨#[]⟩, .int .i64 0] 31)) (by omega) (by omega) hN (hn.lt hb) (hn.on hb hp))
  have CL : Hid (∀ wr, Calls Tryz.prog 39 #[.string (strOfNums (Tk.ascL l k))] wr fun e w' => e = .returned (.int .i64 (Tk.nlen l k : Nat)) ∧ wr = w') := rlength_is _ (by have := Tk.ascL_len l k; rw [strOfNums_size]; omega)
  clear hp hN
  have hR2 : True = True := rfl
  have hR3 : True = True := rfl
  rw [hc] at hcell
  rw [HD.out]
  go_enter Tryz.func14, Tryz.ntmps14
  go_wp2_with (first | (go_at_call 41; have X := CB.out _ hn _ k rfl (by omega); (with_reducible refine X.mono ?_); clear X; rintro e w' ⟨he, rfl⟩; (first | rw [hR1] at he | rw [hR2] at he | rw [hR3] at he | skip); subst he))
  refine bodyPost_ret (v := .tuple #[tokV (15) (⟨#[]⟩) (0), .int .i64 ((k : Int) + 1)]) (by simp [results, tokV, Tryz.results14, go_sem]) rfl (nexted0 rfl (by omega) _)

set_option maxHeartbeats 4000000 in
set_option maxRecDepth 100000 in
theorem tnext_comma (l : List Int) (k : Nat) (b off cap : Nat) (w : World) (hm : l.length ≤ 65000) (hk : k < l.length) (hN : ∀ c ∈ l, 0 ≤ c) (hb : b < w.heap.size) (hp : On w l b off) (hc : Ru.g l k = 44) :
    Calls Tryz.prog 14 #[.slice (some ⟨b, off, none⟩) l.length cap, .int .i64 k] w (Nexted (Tk.nxt l k) w) := by
  have hR1 : Tk.begs l k = false := Tk.begs_not hk (by omega)
  have HD := Lib.hid (show Tk.nxt l k = (16, ⟨#[]⟩, 0, k + 1) by rw [Tk.nxt_past ⟨by omega, by omega, fun h => by omega, fun h => by rw [hc] at h; exact absurd h (by decide)⟩]; unfold Tk.rest; rw [if_neg (fun h => by omega), if_neg (by rw [hR1]; decide), if_neg (by omega), if_neg (by omega), if_pos hc])
  have hn : Now w (w.alloc (.cells #[.int .i64 0, .string ⟨#[]⟩, .int .i64 0] 31)) := Now.refl w
  have hcell := hp k hk
  have HP := Lib.hid hp
  have CA : Hid (∀ wr, Now w wr → AtIs l b off cap wr) := Lib.hid fun wr h => (at_is l b off cap wr (by omega) (h.on hb HP.out)).out
  have CE : Hid (∀ wr, Now w wr → EscIs l b off cap wr) := Lib.hid fun wr h => (esc_is l b off cap wr (by omega) (h.on hb HP.out)).out
  have CB : Hid (∀ wr, Now w wr → BegsIs l b off cap wr) := Lib.hid fun wr h => (begs_is l b off cap wr (by omega) (h.on hb HP.out)).out
  have CN : Hid (∀ wr, Now w wr → ∀ (x : Int) (j : Nat), x = j → j ≤ l.length → Calls Tryz.prog 37 #[.slice (some ⟨b, off, none⟩) l.length cap, .int .i64 x] wr (Named l j wr)) := Lib.hid fun wr h x j hx hj => tname_any l x j hx b off cap wr (by omega) hj (h.lt hb) (h.on hb HP.out)
  have CS := Lib.hid (tascii_any l k b off cap (w.alloc (.cells #[.int .i64 0, .string ⟨#[]⟩, .int .i64 0] 31)) (by omega) (by omega) hN (hn.lt hb) (hn.on hb hp))
  have CL : Hid (∀ wr, Calls Tryz.prog 39 #[.string (strOfNums (Tk.ascL l k))] wr fun e w' => e = .returned (.int .i64 (Tk.nlen l k : Nat)) ∧ wr = w') := rlength_is _ (by have := Tk.ascL_len l k; rw [strOfNums_size]; omega)
  clear hp hN
  have hR2 : True = True := rfl
  have hR3 : True = True := rfl
  rw [hc] at hcell
  rw [HD.out]
  go_enter Tryz.func14, Tryz.ntmps14
  go_wp2_with (first | (go_at_call 41; have X := CB.out _ hn _ k rfl (by omega); (with_reducible refine X.mono ?_); clear X; rintro e w' ⟨he, rfl⟩; (first | rw [hR1] at he | rw [hR2] at he | rw [hR3] at he | skip); subst he))
  refine bodyPost_ret (v := .tuple #[tokV (16) (⟨#[]⟩) (0), .int .i64 ((k : Int) + 1)]) (by simp [results, tokV, Tryz.results14, go_sem]) rfl (nexted0 rfl (by omega) _)
end Go.Proofs.YtppgklmliklkkaaGreatDoor
