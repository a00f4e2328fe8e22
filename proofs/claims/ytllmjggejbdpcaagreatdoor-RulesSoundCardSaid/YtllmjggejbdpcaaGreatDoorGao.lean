/-
  The walk of Write.
-/
import Derived.Test.YtllmjggejbdpcaaGreatDoorGac
import Derived.Test.YtllmjggejbdpcaaGreatDoorGam
import Derived.Test.YtllmjggejbdpcaaGreatDoorGan
import Derived.Test.YtllmjggejbdpcaaGreatDoorGad
import Derived.Deep.LoopGhost
import Derived.ScopeJumps
import Derived.Below
import Derived.Test.YtllmjggejbdpcaaGreatDoorGab
import Derived.Lib.SmallJoins
import Derived.Lib.IndexBytes
import Derived.Deep.QuietTactic
import Derived.BigQuiet
import Derived.Deep.RegionHeld3
import Derived.Deep.Cut
import Derived.Deep.CutRange
import Derived.Deep.DeepCutAuto
set_option maxHeartbeats 16000000
set_option maxRecDepth 100000
namespace Go.Proofs.YtllmjggejbdpcaaGreatDoor
open Go.RowKit
theorem write_next {w wr w3 : World} {v v' : Value} {l : List Int} {k : Nat} {x : Int} (hk : l.take (k + 1) = l.take k ++ [x])
 (hown : wr.ownsRow w.heap.size 5 1 v (Ru.wr (l.take k)).length (nums .u8 (Ru.wr (l.take k)))) (hbel : Below w.heap.size w wr)
 (hown3 : w3.ownsRow w.heap.size 5 1 v' ((Ru.wr (l.take k)).length + (Lib.runeCells x).length) (nums .u8 (Ru.wr (l.take k)) ++ Lib.runeCells x)) (hgrow : ∃ o, (wr.alloc o).grownBy w3 v.ownBlock) :
 w3.ownsRow w.heap.size 5 1 v' (Ru.wr (l.take (k + 1))).length (nums .u8 (Ru.wr (l.take (k + 1)))) /\ Below w.heap.size w w3 := by
 obtain ⟨o, hgrow⟩ := hgrow
 refine ⟨?_, ?_⟩
 ·rw [hk, Ru.wr_snoc, nums_app, List.length_append, <- cells_enc]
  rw [cells_enc] at hown3 ⊢
  rwa [nums_len] at hown3
 ·have hs := hbel.size
  exact (hbel.alloc (by omega) o).grown hgrow (by simp; omega) (fun j hj => (hown.lt j hj).1)
theorem write_any (l : List Int) (A : Option Addr) (cap : Nat) (w : World) (hm : l.length <= 65536) (hcap : l.length <= cap) (hr : ∀ c ∈ l, -2147483648 <= c /\ c <= 2147483647) (hA : Bs w w.heap.size .i32 A l) :
 Calls Tryz.prog 161 #[.slice A l.length cap] w (Made .u8 5 (Ru.wr l) w) := by
 obtain ⟨i0, hi, hz0, hz1, hz2⟩ := info_parts Tryz.info5
 have CA : Hid (∀ (v : Value) (n : Nat) (xs : List Value) (r : Int) (wq : World), -2147483648 <= r -> r <= 2147483647 -> wq.ownsRow w.heap.size 5 1 v n xs -> n + 4 <= 140737488355328 -> w.heap.size <= wq.heap.size ->
  Calls Tryz.prog 200 #[v, .int .i32 r] wq fun e w' => ∃ v', e = .returned v' /\ w'.ownsRow w.heap.size 5 1 v' (n + (Lib.runeCells r).length) (xs ++ Lib.runeCells r) /\ ∃ o, (wq.alloc o).grownBy w' v.ownBlock) :=
  Lib.hid fun v n xs r wq h1 h2 h3 h4 h5 => Tryz.utf8_AppendRune_plain w.heap.size v n xs r h1 h2 wq h3 h4 h5
 have HA := Lib.hid hA
 have HR := Lib.hid hr
 clear hA hr
 by_cases h0 : 0 < l.length
 ·obtain ⟨b, off, rfl, hb, hp⟩ := HA.out h0
  have HP := Lib.hid hp
  clear hp HA
  go_enter Tryz.func161, Tryz.ntmps161
  go_wp2_with (at_make; refine wpList_make_own _ rfl _ _ 22 rfl w.heap.size 5 i0 (.int .u8 0) 1 Tryz.underlying22 hi hz0 hz1 .i64 .i64 _ l.length rfl rfl rfl (by rw [hz2]; omega) (by unfold maxLen; omega) (Nat.le_refl _) ?_; intro w1 hown1 hgrow1; have HB1 := Lib.hid ((Below.refl w.heap.size w).grown hgrow1 (Nat.le_refl _) (by simp)); have HO1 := Lib.hid hown1; clear hown1 hgrow1)
  go_loopw [3, 11] (fun v3 v11 wr => WriteAt w l v3 v11 wr) (fun _ v11 _ => l.length - (RowKit.intOf v11).toNat)
  case atStart => exact ⟨0, Nat.zero_le _, rfl, HO1.out, HB1.out⟩
  case round =>
   obtain ⟨k, hk, rfl, hown, hbel⟩ := hrel
   have HO := Lib.hid hown
   have HB := Lib.hid hbel
   clear hown hbel HO1 HB1
   by_cases hlt : k < l.length
   ·have hcell := (HB.out.cell (p := ⟨b, off + k, none⟩) hb).trans (HP.out k hlt)
    have hr := HR.out _ (List.getElem_mem hlt)
    rw [<- Ru.g_eq hlt] at hr
    obtain ⟨r1, r2⟩ := hr
    have HN := Lib.hid (Ru.take_g hlt)
    have hc4 : (Ru.wr (l.take k)).length + 4 <= 140737488355328 := by have := Ru.wr_len (l.take k); have := List.length_take_le k l; omega
    generalize Ru.g l k = x at *
    go_wp2_with (go_at_call 200; ((with_reducible refine (CA.out _ _ _ _ _ r1 r2 HO.out hc4 HB.out.size).mono ?_); rintro e w3 ⟨v', rfl, hown3, hgrow⟩; have HO3 := Lib.hid (write_next HN.out HO.out HB.out hown3 hgrow); clear hown3 hgrow))
    go_roundw
    case rel => exact ⟨k + 1, by omega, by go_num, HO3.out.1, HO3.out.2⟩
    case measure => simp [RowKit.intOf]; omega
   ·obtain rfl : k = l.length := by omega
    have hd : Hid (l.take l.length = l) := Lib.hid (List.take_length)
    clear HP
    go_wp2_with fail
    go_ret
    exact ⟨_, rfl, by have := HO.out; rw [hd.out] at this; exact this, HB.out⟩
 ·have hl : l = [] := List.eq_nil_of_length_eq_zero (by omega)
  subst hl
  go_enter Tryz.func161, Tryz.ntmps161
  go_wp2_with (at_make; refine wpList_make_own _ rfl _ _ 22 rfl w.heap.size 5 i0 (.int .u8 0) 1 Tryz.underlying22 hi hz0 hz1 .i64 .i64 _ 0 rfl rfl rfl (by rw [hz2]; omega) (by unfold maxLen; omega) (Nat.le_refl _) ?_; intro w1 hown1 hgrow1; have HB1 := Lib.hid ((Below.refl w.heap.size w).grown hgrow1 (Nat.le_refl _) (by simp)); have HO1 := Lib.hid hown1; clear hown1 hgrow1)
  go_loopw [3, 11] (fun v3 v11 wr => v11 = .int .i64 0 /\ wr.ownsRow w.heap.size 5 1 v3 0 [] /\ Below w.heap.size w wr) (fun _ _ _ => 0)
  case atStart => exact ⟨rfl, HO1.out, HB1.out⟩
  case round =>
   obtain ⟨rfl, hown, hbel⟩ := hrel
   have HO := Lib.hid hown
   have HB := Lib.hid hbel
   clear hown hbel
   go_wp2_with fail
   go_ret
   exact ⟨_, rfl, HO.out, HB.out⟩
theorem Tryz.info32 : (Tryz.prog.info? 21).map (fun i => (i.zero, i.size, i.bytes)) = some (some (.int .i32 0), 1, 4) := by kernel_rfl
def W32 (ds : List Int) : Prop := ∀ c ∈ ds, -2147483648 <= c /\ c <= 2147483647
theorem W32.add {ds : List Int} {x : Int} (h : W32 ds) (h1 : -2147483648 <= x) (h2 : x <= 2147483647) : W32 (ds ++ [x]) := by
 intro c hc
 rw [List.mem_append, List.mem_singleton] at hc
 rcases hc with hc | rfl
 ·exact h c hc
 ·exact ⟨h1, h2⟩
abbrev addF (c : Nat) : Value := .func (.func 191) #[] #[.pointer (some ⟨c, 0, none⟩)]
abbrev toldF (c : Nat) : Value := .func (.func 192) #[] #[.pointer (some ⟨c, 0, none⟩)]
def Gathered (w : World) (e : Ending) (w' : World) : Prop :=
 ∃ c : Nat, e = .returned (.tuple #[addF c, toldF c]) /\ w.heap.size <= c /\ Ga w' c [] /\ Below w.heap.size w w'
theorem gather_any (w : World) : Calls Tryz.prog 153 #[] w (Gathered w) := by
 have hmf : ∀ (fn : Fn) (first cap : Array Value) (w : World), (Instr.makeFunc fn first cap).run Tryz.prog w = .ok (.func fn first cap) w := fun _ _ _ _ => rfl
 go_enter Tryz.func153, Tryz.ntmps153
 go_wp2_with fail
 go_ret2
 refine ⟨w.heap.size, rfl, Nat.le_refl _, ⟨_, heap_alloc_new w _, World.ownsRow_nil _ _ _ _⟩, (Below.refl _ _).alloc (Nat.le_refl _) _⟩
theorem row_form {w : World} {B : Nat} {E : TypeId} {m n : Nat} {v : Value} {xs : List Value} (h : w.ownsRow B E m v n xs) : ∃ (A : Option Addr) (cap : Nat), v = .slice A n cap := by
 rcases h.2 with ⟨rfl, h0⟩ | ⟨x, cap, cur, rfl, _, _, _, _⟩
 ·exact ⟨none, 0, by rw [h0]⟩
 ·exact ⟨_, cap, rfl⟩
def Added (c : Nat) (ds : List Int) (w : World) (e : Ending) (w' : World) : Prop := e = .returned (.tuple #[]) /\ Ga w' c ds /\ Below c w w'
theorem add_any' (c : Nat) (ds : List Int) (x : Int) (w : World) (hd : ds.length <= 65536) (h : Ga w c ds) :
 Calls Tryz.prog 191 #[.int .i32 x, .pointer (some ⟨c, 0, none⟩)] w (Added c (ds ++ [x]) w) := by
 obtain ⟨i0, hi, hz0, hz1, hz2⟩ := info_parts Tryz.info32
 obtain ⟨v, hblk, hown⟩ := h
 have hcs := lt_of_block hblk
 have hcell := cell_of_one hblk
 have HK := Lib.hid hblk
 have HO := Lib.hid hown
 have hc3 : ds.length + 1 <= maxLen := by unfold maxLen; omega
 have hc4 : (ds.length + 1) * 4 <= 140737488355328 := by omega
 clear hblk hown
 go_enter Tryz.func191, Tryz.ntmps191
 go_wp2_with (at_builtin; refine wpList_append_own _ rfl _ _ 83 rfl (c + 1) 21 i0 (.int .i32 0) 1 4 Tryz.underlying83 hi hz0 hz1 hz2 rfl (by decide) _ _ _ rfl (HO.out.alloc _) ⟨w.heap.size, 0, none⟩ 1 1 [.int .i32 x] rfl rfl (one_cell _ _) (one_ok _) hc3 hc4 (alloc_size (show c + 1 <= w.heap.size by omega) _) ?_; intro v' w3 hown3 hgrow _; obtain ⟨A5, c5, rfl⟩ := row_form hown3; have HB3 := Lib.hid (((hgrow.block c (by simp; omega) (fun e => by have := (HO.out.lt c e.symm).1; omega)).trans (Below.heap_alloc w _ c hcs)).trans HK.out); have k3 := cell_of_one HB3.out; have f3 := free_of_one HB3.out; have HG := Lib.hid (((Below.refl c w).alloc (Nat.le_of_lt hcs) _).grown hgrow (by simp; omega) (fun j hj => by have := (HO.out.lt j hj).1; omega)); have HO3 := Lib.hid hown3; clear hown3 hgrow)
 go_end0
 refine ⟨rfl, ⟨_, one_setCell HB3.out, ?_⟩, HG.out.setCell (Nat.le_refl _) _⟩
 have := ownsRow_setCell_below HO3.out (a := ⟨c, 0, none⟩) (Nat.lt_succ_self c) (.slice A5 (ds.length + 1) c5)
 rw [nums_app, List.length_append]
 exact this
theorem told_any (c : Nat) (ds : List Int) (w : World) (hd : ds.length <= 65536) (hr : W32 ds) (h : Ga w c ds) :
 Calls Tryz.prog 192 #[.pointer (some ⟨c, 0, none⟩)] w fun e w' => e = .returned (.string (Tk.str ds)) /\ Below w.heap.size w w' := by
 obtain ⟨v, hblk, hown⟩ := h
 obtain ⟨A1, c1, hv, k1, B1⟩ := own_bs hown
 subst hv
 have hcell := cell_of_one hblk
 have C1 := Lib.hid ((write_any ds A1 c1 w hd k1 hr B1).mono fun _ _ h => made_form h)
 clear hblk hown B1
 unfold Tk.str
 generalize Ru.wr ds = r at *
 go_enter Tryz.func192, Tryz.ntmps192
 go_wp2_with (go_at_call 161; ((with_reducible refine (C1.out).mono ?_); rintro e w1 ⟨A2, c2, rfl, k2, B2, b2⟩; have cv := conv_bytes c2 B2))
 go_ret
 exact ⟨rfl, b2⟩
section
variable {w : World} {g cap k : Nat} {A : Option Addr} {l : List Int} {pl : ByteArray}
def QuoS (g : Nat) (A : Option Addr) (cap : Nat) (l : List Int) (pl : ByteArray) (e : Int) (k0 c b : Nat) (w : World) (r : Nat) (wr : World) : Prop :=
 ∃ (j : Nat) (ds : List Int), j <= l.length /\ l.length - j <= r /\ ds.length <= j /\ Hid (Tk.qq l e k0 = Tk.pushes ds (Tk.qq l e j)) /\ Hid (W32 ds) /\ Sc wr g A cap l pl j /\ Ga wr c ds /\ Tz wr b /\ Mv g w wr
theorem quoted_any (hC : Tk.Chr l) (hm : l.length <= 65000) (hk : k < l.length) (hq : Ru.g l k = 34 ∨ Ru.g l k = 39) (S : Sc w g A cap l pl k) :
 Calls Tryz.prog 88 #[.pointer (some ⟨g, 0, none⟩)] w (Stp g A cap l pl (Tk.qq l (Ru.g l k) (k + 1)).2.2 (tokV (Tk.qq l (Ru.g l k) (k + 1)).1 (Tk.str (Tk.qq l (Ru.g l k) (k + 1)).2.1) 0) w) := by
 have HC := Lib.hid hC
 have hgb := S.lt
 have S := S.alloc (.cells #[.int .i64 0, .string ⟨#[]⟩, .int .i64 0] 70)
 have M := (Mv.refl g w).alloc (.cells #[.int .i64 0, .string ⟨#[]⟩, .int .i64 0] 70)
 have Z := Tz.new w
 have S0 := S.lt
 have M0 : w.heap.size <= (w.alloc (.cells #[.int .i64 0, .string ⟨#[]⟩, .int .i64 0] 70)).heap.size := by simp
 have M1 : w.heap.size < (w.alloc (.cells #[.int .i64 0, .string ⟨#[]⟩, .int .i64 0] 70)).heap.size := by simp
 have T0 : Hid (∀ w', Sc w' g A cap l pl k -> Calls Tryz.prog 91 #[.pointer (some ⟨g, 0, none⟩)] w' (Stp g A cap l pl (k + 1) (.int .i32 (Ru.g l k)) w')) := Lib.hid fun w' h => by have := take_in (by omega) hk h; rwa [Tk.at_in hk] at this
 generalize Ru.g l k = e at *
 clear hC
 go_enter Tryz.func88, Tryz.ntmps88
 go_wp2_with (first | (go_at_call 153; ((with_reducible refine (gather_any _).mono ?_); rintro e w1 ⟨c, rfl, hc, G, b1⟩; have Z := Z.below b1 (by simp); have S := S.below b1 S.lt; have M := M.then_ b1 M.size; have hgc := Nat.lt_of_lt_of_le S0 hc; have hcs := Nat.le_trans M0 hc; have hbc := Nat.lt_of_lt_of_le M1 hc; clear b1)) | (go_at_call 91; (first | (with_reducible refine (T0.out _ S).mono ?_)); rintro e w1 ⟨rfl, S, m1⟩; have G := G.mv m1 hgc; have Z := Z.mv m1 hgb; have M := M.trans m1; clear m1))
 clear T0
 go_loopg [] l.length (fun r wr => QuoS g A cap l pl e (k + 1) c w.heap.size w r wr)
 case atStart => exact ⟨k + 1, [], by omega, by omega, by simp, Lib.hid rfl, Lib.hid (fun c hc => absurd hc (by simp)), S, G, Z, M⟩
 case round =>
  clear S G Z M
  obtain ⟨j, ds, hj, hr, hdl, HQ, HW, S, G, Z, M⟩ := hrel
  have hd : ds.length <= 65536 := by omega
  have C0 : Hid (∀ w', Sc w' g A cap l pl j -> Calls Tryz.prog 49 #[.pointer (some ⟨g, 0, none⟩), .int .i64 0] w' (Stp g A cap l pl j (.int .i32 (Tk.at' l j)) w')) := Lib.hid fun w' h => peek_any 0 0 rfl (by omega) hj (by omega) h
  have E0 : Hid (∀ w', Sc w' g A cap l pl j -> Calls Tryz.prog 90 #[.pointer (some ⟨g, 0, none⟩), .int .i64 0] w' (Stp g A cap l pl j (.bool (Tk.esc l j)) w')) := Lib.hid fun w' h => escapes_any 0 0 rfl HC.out.pos (by omega) hj (by omega) h
  have T0 : Hid (∀ w', Sc w' g A cap l pl j -> Calls Tryz.prog 91 #[.pointer (some ⟨g, 0, none⟩)] w' (Stp g A cap l pl (min (j + 1) l.length) (.int .i32 (Tk.at' l j)) w')) := Lib.hid fun w' h => take_any (by omega) hj h
  have P2 : Hid (∀ w', Sc w' g A cap l pl j -> Calls Tryz.prog 155 #[.pointer (some ⟨g, 0, none⟩), .int .i64 2] w' (Stp g A cap l pl (min (j + 2) l.length) (.tuple #[]) w')) := Lib.hid fun w' h => pass_any 2 2 rfl (by omega) hj (by omega) h
  by_cases hlt : j < l.length
  ·have hmin : min (j + 1) l.length = j + 1 := by omega
   by_cases hge : Ru.g l j = e
   ·have HE : Hid (Tk.qq l e (k + 1) = (6, ds, min (j + 1) l.length)) := Lib.hid (by rw [HQ.out, Tk.qq_end (fun h => h.2 hge)]; simp [Tk.pushes])
    rw [Tk.at_in hlt, hge] at C0 T0
    clear hge HQ E0 P2 hmin
    go_wp2_with (first | (go_at_call 49; (first | (with_reducible refine (C0.out _ S).mono ?_)); rintro e w1 ⟨rfl, S, m1⟩; have G := G.mv m1 hgc; have Z := Z.mv m1 hgb; have M := M.trans m1; clear m1) | (go_at_call 91; (first | (with_reducible refine (T0.out _ S).mono ?_)); rintro e w1 ⟨rfl, S, m1⟩; have G := G.mv m1 hgc; have Z := Z.mv m1 hgb; have M := M.trans m1; clear m1) | (go_at_call 192; ((with_reducible refine (told_any c ds _ hd HW.out G).mono ?_); rintro e w1 ⟨rfl, b1⟩; have S := S.below b1 S.lt; have M := M.then_ b1 M.size; have Z := Z.below b1 (lt_of_block Z); clear b1); obtain ⟨z0, z1, z2, f0, f1, f2⟩ := Z.cells))
    refine bodyPost_ret (v := tokV (6) (Tk.str ds) (0)) (by simp [results, tokV, Tryz.results88, go_sem, z0, z1, z2]) rfl ⟨by rw [HE.out], sc_stores (by rw [HE.out]; exact S) hgb _ _ _, tz_stores M (Nat.le_refl _) _ _ _⟩
   ·have hgb0 := HC.out.g hlt
    have n1 := Ru.eq_f hge
    have n2 := Ru.eq_f (show ¬ Ru.g l j = -1 by omega)
    have hst := Tk.qq_step (l := l) (e := e) ⟨hlt, hge⟩
    rw [Tk.at_in hlt] at C0 T0
    by_cases h10 : Ru.g l j = 10
    ·rw [if_pos h10] at hst
     have HE : Hid (Tk.qq l e (k + 1) = (7, ds, j)) := Lib.hid (by rw [HQ.out, hst]; simp [Tk.pushes])
     rw [h10] at C0 n1
     clear hge hgb0 n2 hst h10 HQ E0 P2 T0 hmin
     go_wp2_with (first | (go_at_call 49; (first | (with_reducible refine (C0.out _ S).mono ?_)); rintro e w1 ⟨rfl, S, m1⟩; have G := G.mv m1 hgc; have Z := Z.mv m1 hgb; have M := M.trans m1; clear m1) | (go_at_call 192; ((with_reducible refine (told_any c ds _ hd HW.out G).mono ?_); rintro e w1 ⟨rfl, b1⟩; have S := S.below b1 S.lt; have M := M.then_ b1 M.size; have Z := Z.below b1 (lt_of_block Z); clear b1); obtain ⟨z0, z1, z2, f0, f1, f2⟩ := Z.cells))
     refine bodyPost_ret (v := tokV (7) (Tk.str ds) (0)) (by simp [results, tokV, Tryz.results88, go_sem, z0, z1, z2]) rfl ⟨by rw [HE.out], sc_stores (by rw [HE.out]; exact S) hgb _ _ _, tz_stores M (Nat.le_refl _) _ _ _⟩
    ·rw [if_neg h10] at hst
     have n10 := Ru.eq_f h10
     cases he : Tk.esc l j
     ·rw [he, if_neg (by decide)] at hst
      rw [he] at E0
      by_cases h92 : Ru.g l j = 92
      ·rw [if_pos h92, Tk.qq_clamp (k := j + 2)] at hst
       have HE : Hid (Tk.qq l e (k + 1) = Tk.pushes ds (Tk.qq l e (min (j + 2) l.length))) := Lib.hid (by rw [HQ.out, hst])
       rw [h92] at C0 n1
       clear hge hgb0 n2 n10 hst h10 HQ T0 hmin he h92
       go_wp2_with (first | (go_at_call 49; (first | (with_reducible refine (C0.out _ S).mono ?_)); rintro e w1 ⟨rfl, S, m1⟩; have G := G.mv m1 hgc; have Z := Z.mv m1 hgb; have M := M.trans m1; clear m1) | (go_at_call 90; (first | (with_reducible refine (E0.out _ S).mono ?_)); rintro e w1 ⟨rfl, S, m1⟩; have G := G.mv m1 hgc; have Z := Z.mv m1 hgb; have M := M.trans m1; clear m1) | (go_at_call 155; (first | (with_reducible refine (P2.out _ S).mono ?_)); rintro e w1 ⟨rfl, S, m1⟩; have G := G.mv m1 hgc; have Z := Z.mv m1 hgb; have M := M.trans m1; clear m1))
       go_roundg (l.length - min (j + 2) l.length)
       case measure => omega
       case rel => exact ⟨min (j + 2) l.length, ds, by omega, by omega, by omega, HE, HW, S, G, Z, M⟩
      ·rw [if_neg h92] at hst
       have n92 := Ru.eq_f h92
       have HE : Hid (Tk.qq l e (k + 1) = Tk.pushes (ds ++ [Ru.g l j]) (Tk.qq l e (j + 1))) := Lib.hid (by rw [HQ.out, hst]; simp [Tk.pushes, Tk.push])
       have HW2 : Hid (W32 (ds ++ [Ru.g l j])) := Lib.hid (HW.out.add (by omega) (by omega))
       rw [hmin] at T0
       clear hge hgb0 hst h10 HQ P2 hmin he h92
       generalize Ru.g l j = y at *
       go_wp2_with (first | (go_at_call 49; (first | (with_reducible refine (C0.out _ S).mono ?_)); rintro e w1 ⟨rfl, S, m1⟩; have G := G.mv m1 hgc; have Z := Z.mv m1 hgb; have M := M.trans m1; clear m1) | (go_at_call 90; (first | (with_reducible refine (E0.out _ S).mono ?_)); rintro e w1 ⟨rfl, S, m1⟩; have G := G.mv m1 hgc; have Z := Z.mv m1 hgb; have M := M.trans m1; clear m1) | (go_at_call 91; (first | (with_reducible refine (T0.out _ S).mono ?_)); rintro e w1 ⟨rfl, S, m1⟩; have G := G.mv m1 hgc; have Z := Z.mv m1 hgb; have M := M.trans m1; clear m1) | (go_at_call 191; ((with_reducible refine (add_any' c ds y _ hd G).mono ?_); rintro e w1 ⟨rfl, G, b1⟩; have S := S.below b1 hgc; have M := M.then_ b1 hcs; have Z := Z.below b1 hbc; clear b1)))
       go_roundg (l.length - (j + 1))
       case measure => omega
       case rel => exact ⟨j + 1, ds ++ [y], by omega, by omega, by simp; omega, HE, HW2, S, G, Z, M⟩
     ·rw [if_pos he] at hst
      rw [he] at E0
      have hml := Tk.meant_le (Tk.esc_lt he).1
      have hmb := HC.out.meant_ he
      have HE : Hid (Tk.qq l e (k + 1) = Tk.pushes (ds ++ [(Tk.meant l j).1]) (Tk.qq l e (Tk.meant l j).2)) := Lib.hid (by rw [HQ.out, hst]; simp [Tk.pushes, Tk.push])
      have HW2 : Hid (W32 (ds ++ [(Tk.meant l j).1])) := Lib.hid (HW.out.add (by omega) (by omega))
      have X0 : Hid (∀ w', Sc w' g A cap l pl j -> Calls Tryz.prog 154 #[.pointer (some ⟨g, 0, none⟩)] w' (Stp g A cap l pl (Tk.meant l j).2 (.int .i32 (Tk.meant l j).1) w')) := Lib.hid fun w' h => escape_any (by omega) he h
      clear hge hgb0 hst h10 HQ P2 hmin he T0
      generalize Ru.g l j = y at *
      generalize Tk.meant l j = me at *
      obtain ⟨x, j2⟩ := me
      simp only at HE HW2 X0 hml hmb
      go_wp2_with (first | (go_at_call 49; (first | (with_reducible refine (C0.out _ S).mono ?_)); rintro e w1 ⟨rfl, S, m1⟩; have G := G.mv m1 hgc; have Z := Z.mv m1 hgb; have M := M.trans m1; clear m1) | (go_at_call 90; (first | (with_reducible refine (E0.out _ S).mono ?_)); rintro e w1 ⟨rfl, S, m1⟩; have G := G.mv m1 hgc; have Z := Z.mv m1 hgb; have M := M.trans m1; clear m1) | (go_at_call 154; (first | (with_reducible refine (X0.out _ S).mono ?_)); rintro e w1 ⟨rfl, S, m1⟩; have G := G.mv m1 hgc; have Z := Z.mv m1 hgb; have M := M.trans m1; clear m1) | (go_at_call 191; ((with_reducible refine (add_any' c ds x _ hd G).mono ?_); rintro e w1 ⟨rfl, G, b1⟩; have S := S.below b1 hgc; have M := M.then_ b1 hcs; have Z := Z.below b1 hbc; clear b1)))
      go_roundg (l.length - j2)
      case measure => omega
      case rel => exact ⟨j2, ds ++ [x], by omega, by omega, by simp; omega, HE, HW2, S, G, Z, M⟩
  ·have HE : Hid (Tk.qq l e (k + 1) = (6, ds, min (j + 1) l.length)) := Lib.hid (by rw [HQ.out, Tk.qq_end (fun h => hlt h.1)]; simp [Tk.pushes])
   have n1 : ((-1 : Int) == e) = false := Ru.eq_f (by omega)
   rw [Tk.at_out hlt] at C0 T0
   clear HQ E0 P2
   go_wp2_with (first | (go_at_call 49; (first | (with_reducible refine (C0.out _ S).mono ?_)); rintro e w1 ⟨rfl, S, m1⟩; have G := G.mv m1 hgc; have Z := Z.mv m1 hgb; have M := M.trans m1; clear m1) | (go_at_call 91; (first | (with_reducible refine (T0.out _ S).mono ?_)); rintro e w1 ⟨rfl, S, m1⟩; have G := G.mv m1 hgc; have Z := Z.mv m1 hgb; have M := M.trans m1; clear m1) | (go_at_call 192; ((with_reducible refine (told_any c ds _ hd HW.out G).mono ?_); rintro e w1 ⟨rfl, b1⟩; have S := S.below b1 S.lt; have M := M.then_ b1 M.size; have Z := Z.below b1 (lt_of_block Z); clear b1); obtain ⟨z0, z1, z2, f0, f1, f2⟩ := Z.cells))
   refine bodyPost_ret (v := tokV (6) (Tk.str ds) (0)) (by simp [results, tokV, Tryz.results88, go_sem, z0, z1, z2]) rfl ⟨by rw [HE.out], sc_stores (by rw [HE.out]; exact S) hgb _ _ _, tz_stores M (Nat.le_refl _) _ _ _⟩
end
section
variable {w : World} {g cap k : Nat} {A : Option Addr} {l : List Int} {pl : ByteArray}
theorem pos_of (S : Sc w g A cap l pl k) : posOf w g = k := by unfold posOf; rw [S.c1]; simp
def NamJ (g : Nat) (A : Option Addr) (cap : Nat) (l : List Int) (pl : ByteArray) (k : Nat) (w : World) (a' : Act) (wr : World) : Prop :=
 ∃ (c j : Nat) (ds : List Int) (u5 u6 u7 u8 u9 u10 u11 u12 u13 u14 u15 u16 u17 u18 u19 u20 u21 u22 u23 u24 u25 u26 u27 : Value), a' = { tmps := #[.pointer (some ⟨g, 0, none⟩), undef, .string ⟨#[]⟩, addF c, toldF c, u5, u6, u7, u8, u9, u10, u11, u12, u13, u14, u15, u16, u17, u18, u19, u20, u21, u22, u23, u24, u25, u26, u27], defers := [] } /\ g < c /\ w.heap.size <= c /\ j <= l.length /\ ds.length <= j /\ Hid (Tk.name l k = (ds ++ (Tk.name l j).1, (Tk.name l j).2)) /\ Hid (W32 ds) /\ Sc wr g A cap l pl j /\ Ga wr c ds /\ Mv g w wr
theorem name_any (hC : Tk.Chr l) (hm : l.length <= 65000) (hk : k <= l.length) (S : Sc w g A cap l pl k) :
 Calls Tryz.prog 92 #[.pointer (some ⟨g, 0, none⟩)] w (Stp g A cap l pl (Tk.name l k).2 (.string (Tk.str (Tk.name l k).1)) w) := by
 have HC := Lib.hid hC
 have S0 := S.lt
 have M0 := Nat.le_refl w.heap.size
 have M := Mv.refl g w
 clear hC
 go_enter Tryz.func92, Tryz.ntmps92
 go_wp2_with fail
 refine wp_scope_jumps 0 (fun a' wr => NamJ g A cap l pl k w a' wr) (fun _ wr => l.length - posOf wr g) rfl ?_ ?_
 ·go_wp2_with (go_at_call 153; ((with_reducible refine (gather_any _).mono ?_); rintro e w1 ⟨c, rfl, hc, G, b1⟩; have S := S.below b1 S.lt; have M := M.then_ b1 M.size; have hgc := Nat.lt_of_lt_of_le S0 hc; have hcs := Nat.le_trans M0 hc; clear b1))
  go_step3
  obtain ⟨ds, hds0⟩ : ∃ ds : List Int, ds = [] := ⟨[], rfl⟩
  rw [<- hds0] at G
  have HNM : Hid (Tk.name l k = (ds ++ (Tk.name l k).1, (Tk.name l k).2)) := Lib.hid (by rw [hds0]; rfl)
  have HW : Hid (W32 ds) := Lib.hid (by rw [hds0]; exact fun c hc => absurd hc (by simp))
  have hdl : ds.length <= k := by rw [hds0]; simp
  clear hds0
  obtain ⟨j, hj0⟩ : ∃ j : Nat, j = k := ⟨k, rfl⟩
  rw [<- hj0] at S hdl
  have hj : j <= l.length := by omega
  rw [show (Tk.name l k = (ds ++ (Tk.name l k).1, (Tk.name l k).2)) = (Tk.name l k = (ds ++ (Tk.name l j).1, (Tk.name l j).2)) by rw [hj0]] at HNM
  clear hj0
  have hd : ds.length <= 65536 := by omega
  have E0 : Hid (∀ w', Sc w' g A cap l pl j -> Calls Tryz.prog 90 #[.pointer (some ⟨g, 0, none⟩), .int .i64 0] w' (Stp g A cap l pl j (.bool (Tk.esc l j)) w')) := Lib.hid fun w' h => escapes_any 0 0 rfl HC.out.pos (by omega) hj (by omega) h
  have C0 : Hid (∀ w', Sc w' g A cap l pl j -> Calls Tryz.prog 49 #[.pointer (some ⟨g, 0, none⟩), .int .i64 0] w' (Stp g A cap l pl j (.int .i32 (Tk.at' l j)) w')) := Lib.hid fun w' h => peek_any 0 0 rfl (by omega) hj (by omega) h
  have hin : Tk.inN l j = (Tk.esc l j || Ru.witB (Tk.at' l j)) := rfl
  cases he : Tk.esc l j
  ·rw [he] at E0 hin
   cases hw : Ru.witB (Tk.at' l j)
   ·rw [hw] at hin
    have HE : Hid (Tk.name l k = (ds, j)) := Lib.hid (by rw [HNM.out, Tk.name_no hin, List.append_nil])
    clear hin HNM he
    generalize Tk.at' l j = a at *
    go_wp2_with (first | (go_at_call 90; (first | (with_reducible refine (E0.out _ S).mono ?_)); rintro e w1 ⟨rfl, S, m1⟩; have G := G.mv m1 hgc; have M := M.trans m1; clear m1) | (go_at_call 49; (first | (with_reducible refine (C0.out _ S).mono ?_)); rintro e w1 ⟨rfl, S, m1⟩; have G := G.mv m1 hgc; have M := M.trans m1; clear m1) | (go_at_call 89; ((with_reducible refine (within_any _ _).mono ?_); rintro e w1 ⟨rfl, rfl⟩)) | (go_at_call 192; ((with_reducible refine (told_any c ds _ hd HW.out G).mono ?_); rintro e w1 ⟨rfl, b1⟩; have S := S.below b1 S.lt; have M := M.then_ b1 M.size; clear b1)))
    simp only [Exit.jump]
    go_ret
    exact ⟨by rw [HE.out]; rfl, by rw [HE.out]; exact S, M⟩
   ·rw [hw] at hin
    have hlt := Tk.inN_lt hin
    have h92 : Tk.at' l j ≠ 92 := fun e => by rw [e] at hw; exact absurd hw (by decide)
    have HE : Hid (Tk.name l k = ((ds ++ [Tk.at' l j]) ++ (Tk.name l (j + 1)).1, (Tk.name l (j + 1)).2)) := Lib.hid (by rw [HNM.out, Tk.name_yes hin, List.append_assoc, show Tk.oneN l j = (Tk.at' l j, j + 1) by unfold Tk.oneN; rw [if_neg h92]]; rfl)
    have hab := HC.out.at_ j
    have HW2 : Hid (W32 (ds ++ [Tk.at' l j])) := Lib.hid (HW.out.add (by omega) (by omega))
    have T0 : Hid (∀ w', Sc w' g A cap l pl j -> Calls Tryz.prog 91 #[.pointer (some ⟨g, 0, none⟩)] w' (Stp g A cap l pl (j + 1) (.int .i32 (Tk.at' l j)) w')) := Lib.hid fun w' h => take_in (by omega) hlt h
    clear hin HNM he h92
    generalize Tk.at' l j = a at *
    go_wp2_with (first | (go_at_call 90; (first | (with_reducible refine (E0.out _ S).mono ?_)); rintro e w1 ⟨rfl, S, m1⟩; have G := G.mv m1 hgc; have M := M.trans m1; clear m1) | (go_at_call 49; (first | (with_reducible refine (C0.out _ S).mono ?_)); rintro e w1 ⟨rfl, S, m1⟩; have G := G.mv m1 hgc; have M := M.trans m1; clear m1) | (go_at_call 89; ((with_reducible refine (within_any _ _).mono ?_); rintro e w1 ⟨rfl, rfl⟩)) | (go_at_call 91; (first | (with_reducible refine (T0.out _ S).mono ?_)); rintro e w1 ⟨rfl, S, m1⟩; have G := G.mv m1 hgc; have M := M.trans m1; clear m1) | (go_at_call 191; ((with_reducible refine (add_any' c ds a _ hd G).mono ?_); rintro e w1 ⟨rfl, G, b1⟩; have S := S.below b1 hgc; have M := M.then_ b1 hcs; clear b1)))
    go_step3
    exact ⟨rfl, ⟨c, j + 1, ds ++ [a], _, _, _, _, _, _, _, _, _, _, _, _, _, _, _, _, _, _, _, _, _, _, _, rfl, hgc, hcs, by omega, by simp; omega, HE, HW2, S, G, M⟩⟩
  ·rw [he] at E0 hin
   have hin' : Tk.inN l j = true := hin
   have hl2 := (Tk.esc_lt he)
   have hml := Tk.meant_le hl2.1
   have hmb := HC.out.meant_ he
   have HE : Hid (Tk.name l k = ((ds ++ [(Tk.meant l j).1]) ++ (Tk.name l (Tk.meant l j).2).1, (Tk.name l (Tk.meant l j).2).2)) := Lib.hid (by rw [HNM.out, Tk.name_yes hin', List.append_assoc, show Tk.oneN l j = Tk.meant l j by unfold Tk.oneN; rw [if_pos hl2.2.1]]; rfl)
   have HW2 : Hid (W32 (ds ++ [(Tk.meant l j).1])) := Lib.hid (HW.out.add (by omega) (by omega))
   have X0 : Hid (∀ w', Sc w' g A cap l pl j -> Calls Tryz.prog 154 #[.pointer (some ⟨g, 0, none⟩)] w' (Stp g A cap l pl (Tk.meant l j).2 (.int .i32 (Tk.meant l j).1) w')) := Lib.hid fun w' h => escape_any (by omega) he h
   clear hin hin' HNM he hl2 C0
   generalize Tk.meant l j = me at *
   obtain ⟨y, j2⟩ := me
   simp only at HE HW2 X0 hml hmb
   go_wp2_with (first | (go_at_call 90; (first | (with_reducible refine (E0.out _ S).mono ?_)); rintro e w1 ⟨rfl, S, m1⟩; have G := G.mv m1 hgc; have M := M.trans m1; clear m1) | (go_at_call 154; (first | (with_reducible refine (X0.out _ S).mono ?_)); rintro e w1 ⟨rfl, S, m1⟩; have G := G.mv m1 hgc; have M := M.trans m1; clear m1) | (go_at_call 191; ((with_reducible refine (add_any' c ds y _ hd G).mono ?_); rintro e w1 ⟨rfl, G, b1⟩; have S := S.below b1 hgc; have M := M.then_ b1 hcs; clear b1)))
   go_step3
   exact ⟨rfl, ⟨c, j2, ds ++ [y], _, _, _, _, _, _, _, _, _, _, _, _, _, _, _, _, _, _, _, _, _, _, _, rfl, hgc, hcs, by omega, by simp; omega, HE, HW2, S, G, M⟩⟩
 ·rintro a' wr ⟨c, j, ds, u5, u6, u7, u8, u9, u10, u11, u12, u13, u14, u15, u16, u17, u18, u19, u20, u21, u22, u23, u24, u25, u26, u27, rfl, hgc, hcs, hj, hdl, HNM, HW, S, G, M⟩
  have hpos := pos_of S
  rw [hpos]
  clear hpos
  have hd : ds.length <= 65536 := by omega
  have E0 : Hid (∀ w', Sc w' g A cap l pl j -> Calls Tryz.prog 90 #[.pointer (some ⟨g, 0, none⟩), .int .i64 0] w' (Stp g A cap l pl j (.bool (Tk.esc l j)) w')) := Lib.hid fun w' h => escapes_any 0 0 rfl HC.out.pos (by omega) hj (by omega) h
  have C0 : Hid (∀ w', Sc w' g A cap l pl j -> Calls Tryz.prog 49 #[.pointer (some ⟨g, 0, none⟩), .int .i64 0] w' (Stp g A cap l pl j (.int .i32 (Tk.at' l j)) w')) := Lib.hid fun w' h => peek_any 0 0 rfl (by omega) hj (by omega) h
  have hin : Tk.inN l j = (Tk.esc l j || Ru.witB (Tk.at' l j)) := rfl
  cases he : Tk.esc l j
  ·rw [he] at E0 hin
   cases hw : Ru.witB (Tk.at' l j)
   ·rw [hw] at hin
    have HE : Hid (Tk.name l k = (ds, j)) := Lib.hid (by rw [HNM.out, Tk.name_no hin, List.append_nil])
    clear hin HNM he
    generalize Tk.at' l j = a at *
    go_wp2_with (first | (go_at_call 90; (first | (with_reducible refine (E0.out _ S).mono ?_)); rintro e w1 ⟨rfl, S, m1⟩; have G := G.mv m1 hgc; have M := M.trans m1; clear m1) | (go_at_call 49; (first | (with_reducible refine (C0.out _ S).mono ?_)); rintro e w1 ⟨rfl, S, m1⟩; have G := G.mv m1 hgc; have M := M.trans m1; clear m1) | (go_at_call 89; ((with_reducible refine (within_any _ _).mono ?_); rintro e w1 ⟨rfl, rfl⟩)) | (go_at_call 192; ((with_reducible refine (told_any c ds _ hd HW.out G).mono ?_); rintro e w1 ⟨rfl, b1⟩; have S := S.below b1 S.lt; have M := M.then_ b1 M.size; clear b1)))
    simp only [Exit.jump]
    go_ret
    exact ⟨by rw [HE.out]; rfl, by rw [HE.out]; exact S, M⟩
   ·rw [hw] at hin
    have hlt := Tk.inN_lt hin
    have h92 : Tk.at' l j ≠ 92 := fun e => by rw [e] at hw; exact absurd hw (by decide)
    have HE : Hid (Tk.name l k = ((ds ++ [Tk.at' l j]) ++ (Tk.name l (j + 1)).1, (Tk.name l (j + 1)).2)) := Lib.hid (by rw [HNM.out, Tk.name_yes hin, List.append_assoc, show Tk.oneN l j = (Tk.at' l j, j + 1) by unfold Tk.oneN; rw [if_neg h92]]; rfl)
    have hab := HC.out.at_ j
    have HW2 : Hid (W32 (ds ++ [Tk.at' l j])) := Lib.hid (HW.out.add (by omega) (by omega))
    have T0 : Hid (∀ w', Sc w' g A cap l pl j -> Calls Tryz.prog 91 #[.pointer (some ⟨g, 0, none⟩)] w' (Stp g A cap l pl (j + 1) (.int .i32 (Tk.at' l j)) w')) := Lib.hid fun w' h => take_in (by omega) hlt h
    clear hin HNM he h92
    generalize Tk.at' l j = a at *
    go_wp2_with (first | (go_at_call 90; (first | (with_reducible refine (E0.out _ S).mono ?_)); rintro e w1 ⟨rfl, S, m1⟩; have G := G.mv m1 hgc; have M := M.trans m1; clear m1) | (go_at_call 49; (first | (with_reducible refine (C0.out _ S).mono ?_)); rintro e w1 ⟨rfl, S, m1⟩; have G := G.mv m1 hgc; have M := M.trans m1; clear m1) | (go_at_call 89; ((with_reducible refine (within_any _ _).mono ?_); rintro e w1 ⟨rfl, rfl⟩)) | (go_at_call 91; (first | (with_reducible refine (T0.out _ S).mono ?_)); rintro e w1 ⟨rfl, S, m1⟩; have G := G.mv m1 hgc; have M := M.trans m1; clear m1) | (go_at_call 191; ((with_reducible refine (add_any' c ds a _ hd G).mono ?_); rintro e w1 ⟨rfl, G, b1⟩; have S := S.below b1 hgc; have M := M.then_ b1 hcs; clear b1)))
    go_step3
    exact ⟨rfl, ⟨c, j + 1, ds ++ [a], _, _, _, _, _, _, _, _, _, _, _, _, _, _, _, _, _, _, _, _, _, _, _, rfl, hgc, hcs, by omega, by simp; omega, HE, HW2, S, G, M⟩, by rw [pos_of S]; omega⟩
  ·rw [he] at E0 hin
   have hin' : Tk.inN l j = true := hin
   have hl2 := (Tk.esc_lt he)
   have hml := Tk.meant_le hl2.1
   have hmb := HC.out.meant_ he
   have HE : Hid (Tk.name l k = ((ds ++ [(Tk.meant l j).1]) ++ (Tk.name l (Tk.meant l j).2).1, (Tk.name l (Tk.meant l j).2).2)) := Lib.hid (by rw [HNM.out, Tk.name_yes hin', List.append_assoc, show Tk.oneN l j = Tk.meant l j by unfold Tk.oneN; rw [if_pos hl2.2.1]]; rfl)
   have HW2 : Hid (W32 (ds ++ [(Tk.meant l j).1])) := Lib.hid (HW.out.add (by omega) (by omega))
   have X0 : Hid (∀ w', Sc w' g A cap l pl j -> Calls Tryz.prog 154 #[.pointer (some ⟨g, 0, none⟩)] w' (Stp g A cap l pl (Tk.meant l j).2 (.int .i32 (Tk.meant l j).1) w')) := Lib.hid fun w' h => escape_any (by omega) he h
   clear hin hin' HNM he hl2 C0
   generalize Tk.meant l j = me at *
   obtain ⟨y, j2⟩ := me
   simp only at HE HW2 X0 hml hmb
   go_wp2_with (first | (go_at_call 90; (first | (with_reducible refine (E0.out _ S).mono ?_)); rintro e w1 ⟨rfl, S, m1⟩; have G := G.mv m1 hgc; have M := M.trans m1; clear m1) | (go_at_call 154; (first | (with_reducible refine (X0.out _ S).mono ?_)); rintro e w1 ⟨rfl, S, m1⟩; have G := G.mv m1 hgc; have M := M.trans m1; clear m1) | (go_at_call 191; ((with_reducible refine (add_any' c ds y _ hd G).mono ?_); rintro e w1 ⟨rfl, G, b1⟩; have S := S.below b1 hgc; have M := M.then_ b1 hcs; clear b1)))
   go_step3
   exact ⟨rfl, ⟨c, j2, ds ++ [y], _, _, _, _, _, _, _, _, _, _, _, _, _, _, _, _, _, _, _, _, _, _, _, rfl, hgc, hcs, by omega, by simp; omega, HE, HW2, S, G, M⟩, by rw [pos_of S]; omega⟩
end
theorem afterSign_any (s : ByteArray) (a : Int) (w : World) (hs : s.size <= maxLen) (h0 : 0 <= a) (h1 : a <= s.size) :
 Calls Tryz.prog 215 #[.string s, .int .i64 a] w fun e w' => e = .returned (.int .i64 (Fx.sgn s.data.toList a.toNat : Nat)) /\ w = w' := by
 unfold maxLen at hs
 obtain ⟨k, rfl⟩ := Int.eq_ofNat_of_zero_le h0
 rw [Int.toNat_natCast]
 by_cases hk : k < s.size
 ·have hg := Fx.get_at s k hk
  by_cases h43 : s[k] = 43
  ·have hb : ((s[k].toNat : Int) == 43) = true := by rw [h43]; rfl
   have H := Lib.hid hg; clear hg
   have H43 := Lib.hid h43; clear h43
   go_enter Tryz.func215, Tryz.ntmps215
   go_wp2
   go_ret
   exact ⟨ret_int (by rw [Fx.sgn, H.out, H43.out]; simp), rfl⟩
  ·have hb : ((s[k].toNat : Int) == 43) = false := by
    rw [Bool.eq_false_iff]; intro h; exact h43 ((byte_eq (by decide)).1 h)
   by_cases h45 : s[k] = 45
   ·have hc : ((s[k].toNat : Int) == 45) = true := by rw [h45]; rfl
    have H := Lib.hid hg; clear hg
    have H45 := Lib.hid h45; clear h45 h43
    go_enter Tryz.func215, Tryz.ntmps215
    go_wp2
    go_ret
    exact ⟨ret_int (by rw [Fx.sgn, H.out, H45.out]; simp), rfl⟩
   ·have hc : ((s[k].toNat : Int) == 45) = false := by
     rw [Bool.eq_false_iff]; intro h; exact h45 ((byte_eq (by decide)).1 h)
    have H := Lib.hid hg; clear hg
    have H43 := Lib.hid h43; clear h43
    have H45 := Lib.hid h45; clear h45
    go_enter Tryz.func215, Tryz.ntmps215
    go_wp2
    go_ret
    exact ⟨ret_int (by rw [Fx.sgn, H.out, if_neg (by have := H43.out; have := H45.out; simp [*])]), rfl⟩
 ·have hg := Fx.get_past s k (by omega)
  have H := Lib.hid hg; clear hg
  go_enter Tryz.func215, Tryz.ntmps215
  go_wp2
  go_ret
  exact ⟨ret_int (by rw [Fx.sgn, H.out]; simp), rfl⟩
theorem afterDigits_any (s : ByteArray) (a : Int) (w : World) (hs : s.size <= maxLen) (h0 : 0 <= a) (h1 : a <= s.size) :
 Calls Tryz.prog 216 #[.string s, .int .i64 a] w fun e w' => e = .returned (.int .i64 (Fx.dig s.data.toList a.toNat : Nat)) /\ w = w' := by
 unfold maxLen at hs
 obtain ⟨j, rfl⟩ := Int.eq_ofNat_of_zero_le h0
 rw [Int.toNat_natCast]
 go_enter Tryz.func216, Tryz.ntmps216
 go_wp2
 go_loop [1] (fun i => ∃ k : Nat, k <= s.size /\ i = .int .i64 k /\ Hid (Fx.dig s.data.toList j = Fx.dig s.data.toList k)) (fun i => s.size - (intOf i).toNat)
 case atStart => exact ⟨j, by omega, rfl, Lib.hid rfl⟩
 case round =>
  obtain ⟨k, hk, rfl, H⟩ := hrel
  by_cases hlt : k < s.size
  ·have G := Lib.hid (Fx.get_at s k hlt)
   by_cases d1 : 48 <= (s[k].toNat : Int)
   ·by_cases d2 : (s[k].toNat : Int) <= 57
    ·have Y := Lib.hid (Fx.isD_of d1 d2)
     go_wp2
     go_round
     case rel => exact ⟨k + 1, by omega, by go_num, Lib.hid (by rw [H.out]; exact Fx.dig_yes _ _ (by rw [G.out]; exact Y.out))⟩
     case measure => simp [intOf]; omega
    ·have Y := Lib.hid (Fx.isD_not (Or.inr (Int.not_le.1 d2)))
     go_wp2
     go_ret
     exact ⟨ret_int (by rw [H.out, Fx.dig_no _ _ (by rw [G.out]; exact Y.out)]), rfl⟩
   ·have Y := Lib.hid (Fx.isD_not (Or.inl (Int.not_le.1 d1)))
    go_wp2
    go_ret
    exact ⟨ret_int (by rw [H.out, Fx.dig_no _ _ (by rw [G.out]; exact Y.out)]), rfl⟩
  ·have G := Lib.hid (Fx.get_past s k (by omega))
   go_wp2
   go_ret
   exact ⟨ret_int (by rw [H.out, Fx.dig_no _ _ (by rw [G.out]; exact Fx.isD_zero)]), rfl⟩
def parts (a b c d : Int) : Value := .agg #[.int .i64 a, .int .i64 b, .int .i64 c, .int .i64 d]
theorem split_no (s : ByteArray) (w : World) (hs : s.size <= maxLen) (hn : Fx.spD s.data.toList = Fx.spS s.data.toList) :
 Calls Tryz.prog 196 #[.string s] w fun e w' => e = .returned (parts 0 0 0 0) /\ Below w.heap.size w w' := by
 have hs' := hs
 unfold maxLen at hs'
 have b1 := Fx.spS_hi s.data.toList
 have b2 := Fx.spW_hi s.data.toList
 have b3 := Fx.spW_lo s.data.toList
 have hl : s.data.toList.length = s.size := by simp
 rw [hl] at b1 b2
 have hw := Fx.wayD s (Fx.spW s.data.toList)
 have e1 : Fx.dig s.data.toList (Fx.spS s.data.toList) = Fx.spW s.data.toList := rfl
 have e0 : Fx.sgn s.data.toList 0 = Fx.spS s.data.toList := rfl
 have e2 : Fx.spDof s.data.toList (Fx.spW s.data.toList) = Fx.spD s.data.toList := rfl
 rw [e2] at hw
 have hd := Fx.spD_lo s.data.toList
 generalize Fx.spD s.data.toList = d at *
 generalize Fx.spW s.data.toList = k at *
 generalize Fx.spS s.data.toList = j at *
 obtain rfl : d = k := by omega
 obtain rfl : j = d := by omega
 clear e2 hn hd b3 hl
 rcases hw with ⟨h, hb, hd, hl⟩ | ⟨h, hb, hd, -⟩ | ⟨h, hb, -⟩ | ⟨h, -⟩
 ·omega
 all_goals
  go_enter Tryz.func196, Tryz.ntmps196
  go_wp2_with (first | (go_at_call 215; refine (afterSign_any _ _ _ hs (by omega) (by omega)).mono ?_; rintro e w' ⟨rfl, rfl⟩) | (go_at_call 216; refine (afterDigits_any _ _ _ hs (by omega) (by omega)).mono ?_; rintro e w' ⟨rfl, rfl⟩))
  exact bodyPost_ret (v := parts 0 0 0 0) (by simp [parts, results, Tryz.results196, go_sem]) rfl ⟨rfl, (Below.refl _ _).alloc (Nat.le_refl _) _⟩
theorem clash {x a b : Int} (h : (x == a) = true) (hn : a ≠ b) : ¬ (x == b) = true := by
 rw [beq_iff_eq] at *; omega
theorem sign_is (s : ByteArray) (hs : s.size <= maxLen) (a : Int) (i r : Nat) (h : i <= s.size) (ha : a = i) (hr : Fx.sgn s.data.toList i = r) :
 Hid (∀ w : World, Calls Tryz.prog 215 #[.string s, .int .i64 a] w fun e w' => e = .returned (.int .i64 (r : Int)) /\ w = w') := by
 subst ha hr
 exact fun w => afterSign_any s i w hs (by omega) (by omega)
theorem digits_is (s : ByteArray) (hs : s.size <= maxLen) (a : Int) (i r : Nat) (h : i <= s.size) (ha : a = i) (hr : Fx.dig s.data.toList i = r) :
 Hid (∀ w : World, Calls Tryz.prog 216 #[.string s, .int .i64 a] w fun e w' => e = .returned (.int .i64 (r : Int)) /\ w = w') := by
 subst ha hr
 exact fun w => afterDigits_any s i w hs (by omega) (by omega)
theorem split_yes (s : ByteArray) (w : World) (hs : s.size <= maxLen) (hn : ¬ Fx.spD s.data.toList = Fx.spS s.data.toList) :
 Calls Tryz.prog 196 #[.string s] w fun e w' => e = .returned (parts (Fx.spS s.data.toList : Nat) (Fx.spW s.data.toList : Nat) (Fx.spD s.data.toList : Nat) (Fx.spE s.data.toList : Nat)) /\ Below w.heap.size w w' := by
 have hs' := hs
 unfold maxLen at hs'
 have b1 := Fx.spS_hi s.data.toList
 have b2 := Fx.spW_hi s.data.toList
 have b3 := Fx.spW_lo s.data.toList
 have b4 := Fx.spD_hi s.data.toList
 have b5 := Fx.spD_lo s.data.toList
 have b6 := Fx.spE_hi s.data.toList
 have b7 := Fx.spE_lo s.data.toList
 have hl : s.data.toList.length = s.size := by simp
 rw [hl] at b1 b2 b4 b6
 have hw := Fx.wayD s (Fx.spW s.data.toList)
 have he := Fx.wayE s (Fx.spD s.data.toList)
 have e1 : Fx.dig s.data.toList (Fx.spS s.data.toList) = Fx.spW s.data.toList := rfl
 have e0 : Fx.sgn s.data.toList 0 = Fx.spS s.data.toList := rfl
 have e2 : Fx.spDof s.data.toList (Fx.spW s.data.toList) = Fx.spD s.data.toList := rfl
 have e3 : Fx.spEof s.data.toList (Fx.spD s.data.toList) = Fx.spE s.data.toList := rfl
 rw [e2] at hw
 rw [e3] at he
 have g1 := Fx.sgn_lo s.data.toList (Fx.spD s.data.toList + 1)
 have g2 : Fx.spD s.data.toList < s.size -> Fx.sgn s.data.toList (Fx.spD s.data.toList + 1) <= s.size := fun h => hl ▸ Fx.sgn_hi s.data.toList (Fx.spD s.data.toList + 1) (by omega)
 generalize Fx.spE s.data.toList = en at *
 generalize Fx.spD s.data.toList = d at *
 generalize Fx.spW s.data.toList = k at *
 generalize Fx.spS s.data.toList = j at *
 generalize hf : Fx.sgn s.data.toList (d + 1) = f at *
 have CS := sign_is s hs 0 0 j (Nat.zero_le _) rfl e0
 have CW := digits_is s hs j j k b1 rfl e1
 clear e0 e1 e2 e3 hl
 have hdj : decide ((d : Int) = (j : Int)) = false := decide_eq_false (by omega)
 have hdj' : ((d : Int) == (j : Int)) = false := by rw [beq_eq_false_iff_ne]; omega
 have CD : k < s.size -> ∀ r, Fx.dig s.data.toList (k + 1) = r -> Hid (∀ w : World, Calls Tryz.prog 216 #[.string s, .int .i64 ((k : Int) + 1)] w fun e w' => e = .returned (.int .i64 (r : Int)) /\ w = w') := fun h r hr => digits_is s hs ((k : Int) + 1) (k + 1) r (by omega) (by omega) hr
 have CF : d < s.size -> Hid (∀ w : World, Calls Tryz.prog 215 #[.string s, .int .i64 ((d : Int) + 1)] w fun e w' => e = .returned (.int .i64 (f : Int)) /\ w = w') := fun h => sign_is s hs ((d : Int) + 1) (d + 1) f (by omega) (by omega) hf
 have CE : d < s.size -> ∀ r, Fx.dig s.data.toList f = r -> Hid (∀ w : World, Calls Tryz.prog 216 #[.string s, .int .i64 (f : Int)] w fun e w' => e = .returned (.int .i64 (r : Int)) /\ w = w') := fun h r hr => digits_is s hs f f r (g2 h) rfl hr
 rcases he with ⟨i, ib, ie, il⟩ | ⟨i, ib, ie, id⟩ | ⟨i, ib, ic, id⟩ | ⟨i, id⟩
 ·rw [hf] at ie il
  replace CE := CE i en ie.symm
  replace CF := CF i
  clear ie g2 hf
  rcases ib with ib | ⟨ib, ic⟩
  all_goals
   rcases hw with ⟨h, hb, hd, hl⟩ | ⟨h, hb, hd, hk⟩ | ⟨h, hb, hk⟩ | ⟨h, hk⟩
  all_goals try (subst hk; exact absurd hb (clash ib (by decide)))
  all_goals try (subst hk; exact absurd hb (clash ic (by decide)))
  all_goals try (exfalso; omega)
  all_goals
   first | replace CD := CD h _ hd.symm | (subst hk; replace CD := CD h (_ + 1) hd) | (subst hk; clear CD)
   first | clear hd | skip
   go_enter Tryz.func196, Tryz.ntmps196
   go_wp2_with (first | (go_at_call 215; ((with_reducible refine (CS.out _).mono ?_); rintro e w' ⟨rfl, rfl⟩)) | (go_at_call 215; ((with_reducible refine (CF.out _).mono ?_); rintro e w' ⟨rfl, rfl⟩)) | (go_at_call 216; ((with_reducible refine (CW.out _).mono ?_); rintro e w' ⟨rfl, rfl⟩)) | (go_at_call 216; ((with_reducible refine (CD.out _).mono ?_); rintro e w' ⟨rfl, rfl⟩)) | (go_at_call 216; ((with_reducible refine (CE.out _).mono ?_); rintro e w' ⟨rfl, rfl⟩)))
   exact bodyPost_ret (v := parts _ _ _ _) (by simp [parts, results, Tryz.results196, go_sem]) rfl ⟨rfl, (Below.refl _ _).alloc (Nat.le_refl _) _⟩
 ·rw [hf] at ie
  replace CE := CE i f ie
  replace CF := CF i
  clear ie g2 hf
  subst id
  rcases ib with ib | ⟨ib, ic⟩
  all_goals
   rcases hw with ⟨h, hb, hd, hl⟩ | ⟨h, hb, hd, hk⟩ | ⟨h, hb, hk⟩ | ⟨h, hk⟩
  all_goals try (subst hk; exact absurd hb (clash ib (by decide)))
  all_goals try (subst hk; exact absurd hb (clash ic (by decide)))
  all_goals try (exfalso; omega)
  all_goals
   first | replace CD := CD h _ hd.symm | (subst hk; replace CD := CD h (_ + 1) hd) | (subst hk; clear CD)
   first | clear hd | skip
   go_enter Tryz.func196, Tryz.ntmps196
   go_wp2_with (first | (go_at_call 215; ((with_reducible refine (CS.out _).mono ?_); rintro e w' ⟨rfl, rfl⟩)) | (go_at_call 215; ((with_reducible refine (CF.out _).mono ?_); rintro e w' ⟨rfl, rfl⟩)) | (go_at_call 216; ((with_reducible refine (CW.out _).mono ?_); rintro e w' ⟨rfl, rfl⟩)) | (go_at_call 216; ((with_reducible refine (CD.out _).mono ?_); rintro e w' ⟨rfl, rfl⟩)) | (go_at_call 216; ((with_reducible refine (CE.out _).mono ?_); rintro e w' ⟨rfl, rfl⟩)))
   exact bodyPost_ret (v := parts _ _ _ _) (by simp [parts, results, Tryz.results196, go_sem]) rfl ⟨rfl, (Below.refl _ _).alloc (Nat.le_refl _) _⟩
 ·clear CE CF g2 hf
  subst id
  rcases hw with ⟨h, hb, hd, hl⟩ | ⟨h, hb, hd, hk⟩ | ⟨h, hb, hk⟩ | ⟨h, hk⟩
  all_goals try (exfalso; omega)
  all_goals
   first | replace CD := CD h _ hd.symm | (subst hk; replace CD := CD h (_ + 1) hd) | (subst hk; clear CD)
   first | clear hd | skip
   go_enter Tryz.func196, Tryz.ntmps196
   go_wp2_with (first | (go_at_call 215; ((with_reducible refine (CS.out _).mono ?_); rintro e w' ⟨rfl, rfl⟩)) | (go_at_call 215; ((with_reducible refine (CF.out _).mono ?_); rintro e w' ⟨rfl, rfl⟩)) | (go_at_call 216; ((with_reducible refine (CW.out _).mono ?_); rintro e w' ⟨rfl, rfl⟩)) | (go_at_call 216; ((with_reducible refine (CD.out _).mono ?_); rintro e w' ⟨rfl, rfl⟩)) | (go_at_call 216; ((with_reducible refine (CE.out _).mono ?_); rintro e w' ⟨rfl, rfl⟩)))
   exact bodyPost_ret (v := parts _ _ _ _) (by simp [parts, results, Tryz.results196, go_sem]) rfl ⟨rfl, (Below.refl _ _).alloc (Nat.le_refl _) _⟩
 ·clear CE CF g2 hf
  subst id
  rcases hw with ⟨h, hb, hd, hl⟩ | ⟨h, hb, hd, hk⟩ | ⟨h, hb, hk⟩ | ⟨h, hk⟩
  all_goals try (exfalso; omega)
  all_goals
   first | replace CD := CD h _ hd.symm | (subst hk; replace CD := CD h (_ + 1) hd) | (subst hk; clear CD)
   first | clear hd | skip
   go_enter Tryz.func196, Tryz.ntmps196
   go_wp2_with (first | (go_at_call 215; ((with_reducible refine (CS.out _).mono ?_); rintro e w' ⟨rfl, rfl⟩)) | (go_at_call 215; ((with_reducible refine (CF.out _).mono ?_); rintro e w' ⟨rfl, rfl⟩)) | (go_at_call 216; ((with_reducible refine (CW.out _).mono ?_); rintro e w' ⟨rfl, rfl⟩)) | (go_at_call 216; ((with_reducible refine (CD.out _).mono ?_); rintro e w' ⟨rfl, rfl⟩)) | (go_at_call 216; ((with_reducible refine (CE.out _).mono ?_); rintro e w' ⟨rfl, rfl⟩)))
   exact bodyPost_ret (v := parts _ _ _ _) (by simp [parts, results, Tryz.results196, go_sem]) rfl ⟨rfl, (Below.refl _ _).alloc (Nat.le_refl _) _⟩
theorem field_end (a b c d : Int) (w : World) : (Instr.field 191 (.agg #[.int .i64 a, .int .i64 b, .int .i64 c, .int .i64 d]) 3).run Tryz.prog w = .ok (.int .i64 d) w := by kernel_rfl
theorem length_any (s : ByteArray) (w : World) (hs : s.size <= maxLen) :
 Calls Tryz.prog 158 #[.string s] w fun e w' => e = .returned (.int .i64 (Fx.len s.data.toList : Nat)) /\ Below w.heap.size w w' := by
 have HL : Hid (Fx.len s.data.toList = if Fx.spD s.data.toList = Fx.spS s.data.toList then 0 else Fx.spE s.data.toList) := Lib.hid rfl
 have C : (∃ m, m = Fx.len s.data.toList /\ ∃ x y z : Int, ∀ w : World, Calls Tryz.prog 196 #[.string s] w fun e w' => e = .returned (parts x y z (m : Nat)) /\ Below w.heap.size w w') := by
  by_cases hn : Fx.spD s.data.toList = Fx.spS s.data.toList
  ·exact ⟨0, by unfold Fx.len; rw [if_pos hn], 0, 0, 0, fun w => split_no s w hs hn⟩
  ·exact ⟨Fx.spE s.data.toList, by unfold Fx.len; rw [if_neg hn], _, _, _, fun w => split_yes s w hs hn⟩
 clear HL
 obtain ⟨m, hm, x, y, z, C⟩ := C
 have C := Lib.hid C
 rw [<- hm]
 clear hm hs
 have hf := field_end x y z m
 go_enter Tryz.func158, Tryz.ntmps158
 go_wp2_with fail
 refine (C.out _).mono ?_
 rintro e w' ⟨rfl, hb⟩
 unfold parts
 go_wp2_with fail
 go_ret
 exact ⟨rfl, hb⟩
namespace Fx
theorem at_drop (l : List UInt8) (d i : Nat) : at' (l.drop d) i = at' l (d + i) := by
 unfold at'; rw [List.getD_eq_getElem?_getD, List.getD_eq_getElem?_getD, List.getElem?_drop]
theorem sgn_drop (l : List UInt8) (d i : Nat) : sgn (l.drop d) i + d = sgn l (d + i) := by
 unfold sgn; rw [at_drop]; split <;> omega
theorem seg_to_end (l : List UInt8) (a : Nat) : seg l a l.length = l.drop a := by
 unfold seg; rw [<- List.length_drop, List.take_length]
end Fx
theorem atoi_tail (t : ByteArray) (hl : t.size <= 6) (hn : t.data.toList ≠ []) (hd : ∀ c ∈ t.data.toList, Fx.isD c = true) (w : World) :
 Calls Tryz.prog 217 #[.string t] w fun e w' => e = .returned (.tuple #[.int .i64 (Fx.valFrom 0 t.data.toList : Nat), .nilIface]) /\ Below w.heap.size w w' := by
 refine (Tryz.strconv_Atoi t _ (by omega) (Fx.atoi_val hn hd) w).mono ?_
 rintro e w' ⟨he, u, hw⟩
 rw [hw]
 exact ⟨he, Go.Joins.below_bytesWorld _ _ _ _ (Nat.le_refl _)⟩
theorem toList_isEmpty {t : ByteArray} {b : Bool} (h : decide (t.size = 0) = b) : t.toList.isEmpty = b := by
 rw [<- h, Lib.toList_data]
 have hl : t.data.toList.length = t.size := by simp
 rw [<- hl]
 cases t.data.toList <;> simp
theorem exponent_core (t : ByteArray) (w : World) (hs : t.size <= maxLen) (f : Nat) (b : Bool) (h2 : 1 < t.size) (hf : Fx.sgn t.data.toList 1 = f) (hft : f < t.size) (hb : (((t[1]'h2).toNat : Int) == 45) = b)
 (hd : ∀ c ∈ t.data.toList.drop f, Fx.isD c = true) :
 Calls Tryz.prog 197 #[.string t] w fun e w' => e = .returned (.int .i64 (if b = true then - (if t.size - f <= 6 then (Fx.valFrom 0 (t.data.toList.drop f) : Int) else 999999) else (if t.size - f <= 6 then (Fx.valFrom 0 (t.data.toList.drop f) : Int) else 999999))) /\ Below w.heap.size w w' := by
 have hs' := hs
 unfold maxLen at hs'
 have hne : t.toList.isEmpty = false := toList_isEmpty (decide_eq_false (by omega))
 have CS := sign_is t hs 1 1 f (by omega) rfl hf
 have f0 : 1 <= f := by have := Fx.sgn_lo t.data.toList 1; omega
 have ed : (t.extract f t.size).data.toList = t.data.toList.drop f := Lib.extract_to_end t f
 by_cases h6 : t.size - f <= 6
 ·have hv := Fx.valFrom_lt _ 0 hd
  have hlen : (t.data.toList.drop f).length = t.size - f := by simp
  rw [hlen] at hv
  have hp : 10 ^ (t.size - f) <= 10 ^ 6 := Nat.pow_le_pow_right (by decide) h6
  have hvm : Fx.valFrom 0 (t.data.toList.drop f) < 1000000 := by omega
  have CA : Hid (∀ w : World, Calls Tryz.prog 217 #[.string (t.extract f t.size)] w fun e w' => e = .returned (.tuple #[.int .i64 (Fx.valFrom 0 (t.data.toList.drop f) : Nat), .nilIface]) /\ Below w.heap.size w w') := Lib.hid fun w => by
   have := atoi_tail (t.extract f t.size) (by rw [ByteArray.size_extract]; omega) (by rw [ed]; intro h; rw [h] at hlen; simp at hlen; omega) (by rw [ed]; exact hd) w
   rw [ed] at this
   exact this
  rw [if_pos h6]
  generalize Fx.valFrom 0 (t.data.toList.drop f) = v at *
  clear hv hlen hp ed hd hf
  cases b
  all_goals
   go_enter Tryz.func197, Tryz.ntmps197
   go_wp2_with (first | (go_at_call 215; ((with_reducible refine (CS.out _).mono ?_); rintro e w' ⟨rfl, rfl⟩)) | (go_at_call 217; ((with_reducible refine (CA.out _).mono ?_); rintro e w' ⟨rfl, hb⟩)))
   go_ret
   exact ⟨rfl, hb⟩
 ·rw [if_neg h6]
  clear hd hf ed
  cases b
  all_goals
   go_enter Tryz.func197, Tryz.ntmps197
   go_wp2_with (go_at_call 215; ((with_reducible refine (CS.out _).mono ?_); rintro e w' ⟨rfl, rfl⟩))
   go_ret
   exact ⟨rfl, Below.refl _ _⟩
theorem exponent_nil (t : ByteArray) (w : World) (h0 : t.size = 0) :
 Calls Tryz.prog 197 #[.string t] w fun e w' => e = .returned (.int .i64 0) /\ Below w.heap.size w w' := by
 have hne : t.toList.isEmpty = true := toList_isEmpty (decide_eq_true h0)
 clear h0
 go_enter Tryz.func197, Tryz.ntmps197
 go_wp2_with fail
 go_ret
 exact ⟨rfl, Below.refl _ _⟩
theorem exponent_any (s t : ByteArray) (w : World) (hs : s.size <= maxLen) (ht : t.data.toList = s.data.toList.drop (Fx.spD s.data.toList)) (hE : Fx.spE s.data.toList = s.size) :
 Calls Tryz.prog 197 #[.string t] w fun e w' => e = .returned (.int .i64 (Fx.expo s.data.toList)) /\ Below w.heap.size w w' := by
 generalize hl : s.data.toList = l at *
 have hll : l.length = s.size := by rw [<- hl]; simp
 have hts : t.size = s.size - Fx.spD l := by
  have : t.data.toList.length = t.size := by simp
  rw [<- this, ht, List.length_drop, hll]
 have b4 := Fx.spD_hi l
 rcases Fx.spE_case l with h | ⟨h1, h2, h3⟩
 ·unfold Fx.expo; rw [if_pos h]
  exact exponent_nil t w (by omega)
 ·have g1 : Fx.spD l + 1 <= Fx.fromE l := Fx.sgn_lo l _
  have hsg := Fx.sgn_drop l (Fx.spD l) 1
  have hfe : Fx.sgn (l.drop (Fx.spD l)) 1 = Fx.fromE l - Fx.spD l := by unfold Fx.fromE; omega
  have hdr : t.data.toList.drop (Fx.fromE l - Fx.spD l) = Fx.seg l (Fx.fromE l) (Fx.spE l) := by
   rw [ht, List.drop_drop, hE, <- hll, Fx.seg_to_end, show Fx.spD l + (Fx.fromE l - Fx.spD l) = Fx.fromE l by omega]
  have hd : ∀ c ∈ t.data.toList.drop (Fx.fromE l - Fx.spD l), Fx.isD c = true := by
   rw [hdr, h3]; exact Fx.seg_isD l _
  have h2' : 1 < t.size := by omega
  have e1 : Fx.at' l (Fx.spD l + 1) = t[1]'h2' := by
   rw [<- Fx.get_at t 1 h2', ht, Fx.at_drop]
  refine (exponent_core t w (by omega) (Fx.fromE l - Fx.spD l) _ h2' (by rw [ht]; exact hfe) (by omega) rfl hd).mono ?_
  rintro e w' ⟨he, hb⟩
  refine ⟨?_, hb⟩
  rw [he]
  refine ret_int ?_
  rw [hdr]
  unfold Fx.expo Fx.expMag
  have hne : ¬ Fx.spE l = Fx.spD l := by omega
  rw [if_neg hne, show t.size - (Fx.fromE l - Fx.spD l) = Fx.spE l - Fx.fromE l by omega, e1]
  have hc : (((t[1]'h2').toNat : Int) == 45) = true ↔ t[1]'h2' = 45 := byte_eq (n := 45) (by decide)
  by_cases c : t[1]'h2' = 45
  ·rw [if_pos (hc.2 c), if_pos c]; split <;> rfl
  ·rw [if_neg (fun h => c (hc.1 h)), if_neg c]; split <;> rfl
structure Has (w : World) (s : ByteArray) (bp bs : Nat) : Prop where
 c0 : w.cell? ⟨bp, 0, none⟩ = some (.int .i64 (Fx.spS s.data.toList : Nat))
 c1 : w.cell? ⟨bp, 1, none⟩ = some (.int .i64 (Fx.spW s.data.toList : Nat))
 c2 : w.cell? ⟨bp, 2, none⟩ = some (.int .i64 (Fx.spD s.data.toList : Nat))
 cs : w.cell? ⟨bs, 0, none⟩ = some (.string s)
theorem closure_any (s : ByteArray) (bp bs k : Nat) (w : World) (hs : s.size <= 70000) (hk : k <= 10000000) (hw : Has w s bp bs) :
 Calls Tryz.prog 218 #[.int .i64 (k : Int), .pointer (some ⟨bp, 0, none⟩), .pointer (some ⟨bs, 0, none⟩)] w fun e w' => e = .returned (.int .i64 (Fx.dgt s.data.toList k : Nat)) /\ w = w' := by
 have hl : s.data.toList.length = s.size := by simp
 have b1 := Fx.spS_hi s.data.toList
 have b2 := Fx.spW_hi s.data.toList
 have b3 := Fx.spW_lo s.data.toList
 have b4 := Fx.spD_hi s.data.toList
 have b5 := Fx.spD_lo s.data.toList
 rw [hl] at b1 b2 b4
 obtain ⟨c0, c1, c2, cs⟩ := hw
 have hd : ∀ i, Fx.isD (Fx.at' s.data.toList i) = true -> ∀ h : i < s.size, 48 <= (s[i].toNat : Int) /\ (s[i].toNat : Int) <= 57 := by
  intro i h hi
  rw [Fx.get_at s i hi] at h
  exact of_decide_eq_true h
 have hD : Hid (Fx.dgt s.data.toList k = if Fx.spS s.data.toList + k < Fx.spW s.data.toList then Fx.dv (Fx.at' s.data.toList (Fx.spS s.data.toList + k)) else if Fx.spS s.data.toList + k + 1 < Fx.spD s.data.toList then Fx.dv (Fx.at' s.data.toList (Fx.spS s.data.toList + k + 1)) else 0) := Lib.hid rfl
 have hA : Hid (∀ i, Fx.spS s.data.toList <= i -> i < Fx.spW s.data.toList -> Fx.isD (Fx.at' s.data.toList i) = true) := Lib.hid fun i h1 h2 => Fx.dig_in (a := Fx.spS s.data.toList) h1 h2
 have hB : Hid (∀ i, Fx.spW s.data.toList + 1 <= i -> i < Fx.spD s.data.toList -> Fx.isD (Fx.at' s.data.toList i) = true) := Lib.hid fun i h1 h2 => by
  rcases Fx.spD_case s.data.toList with h | ⟨_, _, h⟩
  ·omega
  ·exact Fx.dig_in (a := Fx.spW s.data.toList + 1) h1 (h ▸ h2)
 generalize Fx.spD s.data.toList = d at *
 generalize Fx.spW s.data.toList = wh at *
 generalize Fx.spS s.data.toList = j at *
 have HD := Lib.hid hd
 clear hl hd
 by_cases h1 : j + k < wh
 ·obtain ⟨d1, d2⟩ := HD.out (j + k) (hA.out _ (by omega) h1) (by omega)
  have hv : Hid (Fx.dgt s.data.toList k = Fx.dv s[j + k]) := Lib.hid (by rw [hD.out, if_pos h1, Fx.get_at s (j + k) (by omega)])
  have hsub := Lib.hid (sub_byte d1)
  clear hD hA hB HD
  go_enter Tryz.func218, Tryz.ntmps218
  go_wp2_with fail
  go_ret
  exact ⟨ret_int (by rw [hv.out]; exact hsub.out), rfl⟩
 ·by_cases h2 : j + k + 1 < d
  ·obtain ⟨d1, d2⟩ := HD.out (j + k + 1) (hB.out _ (by omega) h2) (by omega)
   have hv : Hid (Fx.dgt s.data.toList k = Fx.dv s[j + k + 1]) := Lib.hid (by rw [hD.out, if_neg h1, if_pos h2, Fx.get_at s (j + k + 1) (by omega)])
   have hsub := Lib.hid (sub_byte d1)
   clear hD hA hB HD
   go_enter Tryz.func218, Tryz.ntmps218
   go_wp2_with fail
   go_ret
   exact ⟨ret_int (by rw [hv.out]; exact hsub.out), rfl⟩
  ·have hv : Hid (Fx.dgt s.data.toList k = 0) := Lib.hid (by rw [hD.out, if_neg h1, if_neg h2])
   clear hD hA hB HD
   go_enter Tryz.func218, Tryz.ntmps218
   go_wp2_with fail
   go_ret
   exact ⟨ret_int (by rw [hv.out]; rfl), rfl⟩
theorem leading_any (s : ByteArray) (bp bs : Nat) (p : Int) (w : World) (hs : s.size <= 70000) (hp : p <= 10000000) (hp' : -10000000 <= p) (hw : Has w s bp bs) :
 Calls Tryz.prog 198 #[.func (.func 218) #[] #[.pointer (some ⟨bp, 0, none⟩), .pointer (some ⟨bs, 0, none⟩)], .int .i64 ((Fx.spD s.data.toList : Int) - (Fx.spS s.data.toList : Int)), .int .i64 p] w fun e w' => e = .returned (.int .i64 (min (Fx.V (Fx.dgt s.data.toList) p.toNat : Nat) 1099511627776)) /\ w = w' := by
 have C : Hid (∀ k : Nat, k <= 10000000 -> Calls Tryz.prog 218 #[.int .i64 (k : Int), .pointer (some ⟨bp, 0, none⟩), .pointer (some ⟨bs, 0, none⟩)] w fun e w' => e = .returned (.int .i64 (Fx.dgt s.data.toList k : Nat)) /\ w = w') := Lib.hid fun k hk => closure_any s bp bs k w hs hk hw
 have hl : s.data.toList.length = s.size := by simp
 have b1 := Fx.spS_hi s.data.toList
 have b3 := Fx.spW_lo s.data.toList
 have b4 := Fx.spD_hi s.data.toList
 have b5 := Fx.spD_lo s.data.toList
 rw [hl] at b1 b4
 have hz : Hid (∀ i, Fx.spD s.data.toList - Fx.spS s.data.toList <= i -> Fx.dgt s.data.toList i = 0) := Lib.hid fun i hi => by
  unfold Fx.dgt; rw [if_neg (by omega), if_neg (by omega)]
 have hle : Hid (∀ i, Fx.dgt s.data.toList i <= 9) := Lib.hid (Fx.dgt_le _)
 generalize Fx.spD s.data.toList = d at *
 generalize Fx.spW s.data.toList = wh at *
 generalize Fx.spS s.data.toList = j at *
 generalize Fx.dgt s.data.toList = f at *
 clear hw hl
 go_enter Tryz.func198, Tryz.ntmps198
 go_wp2_with fail
 go_loop [7, 8] (fun n i => ∃ k : Nat, (k : Int) <= max p 0 /\ i = .int .i64 k /\ n = .int .i64 (Fx.V f k : Nat) /\ Fx.V f k <= 1099511627776) (fun _ i => 10000000 - (intOf i).toNat)
 case atStart => exact ⟨0, by omega, rfl, rfl, Nat.zero_le _⟩
 case round =>
  obtain ⟨k, hk, rfl, rfl, hv⟩ := hrel
  have hf := hle.out k
  have C1 := Lib.hid (C.out k (by omega))
  have hV := Lib.hid (Fx.V_succ f k)
  by_cases h1 : (k : Int) < p
  ·have hgo : Hid (Fx.V f (k + 1) = Fx.V f k * 10 + f k) := hV
   have hgt : 1099511627776 < Fx.V f k * 10 + f k -> Hid (min ((Fx.V f p.toNat : Nat) : Int) 1099511627776 = 1099511627776) := fun h => Lib.hid (by
    have := Fx.V_le f (a := k + 1) (b := p.toNat) (by omega)
    have := hgo.out
    omega)
   by_cases h2 : 0 < Fx.V f k
   ·have hb2 : decide ((0 : Int) < (Fx.V f k : Int)) = true := decide_eq_true (by omega)
    clear hz
    by_cases h3 : 1099511627776 < Fx.V f k * 10 + f k
    ·have HG := hgt h3
     clear hgt
     go_wp2_with (go_at_call 218; ((with_reducible refine (C1.out).mono ?_); rintro e w' ⟨rfl, rfl⟩))
     go_ret
     exact ⟨ret_int HG.out.symm, rfl⟩
    ·clear hgt
     go_wp2_with (go_at_call 218; ((with_reducible refine (C1.out).mono ?_); rintro e w' ⟨rfl, rfl⟩))
     go_round
     case rel => exact ⟨k + 1, by omega, by go_num, by rw [hgo.out]; go_num, by rw [hgo.out]; omega⟩
     case measure => simp [intOf]; omega
   ·have hb2 : decide ((0 : Int) < (Fx.V f k : Int)) = false := decide_eq_false (by omega)
    clear hgt
    by_cases h4 : (k : Int) < (d : Int) - (j : Int)
    ·clear hz
     go_wp2_with (go_at_call 218; ((with_reducible refine (C1.out).mono ?_); rintro e w' ⟨rfl, rfl⟩))
     go_round
     case rel => exact ⟨k + 1, by omega, by go_num, by rw [hgo.out]; go_num, by rw [hgo.out]; omega⟩
     case measure => simp [intOf]; omega
    ·have hv0 : Hid (Fx.V f p.toNat = 0) := Lib.hid (Fx.V_still f (a := k) (by omega) (fun i hi => hz.out i (by omega)) (by omega))
     have hk0 : Hid (Fx.V f k = 0) := Lib.hid (by omega)
     clear hz
     go_wp2_with fail
     go_ret
     exact ⟨ret_int (by rw [hv0.out, hk0.out]; rfl), rfl⟩
  ·have hv0 : Hid (((Fx.V f p.toNat : Nat) : Int) = Fx.V f k) := Lib.hid (by rw [show p.toNat = k by omega])
   clear hz
   go_wp2_with fail
   go_ret
   exact ⟨ret_int (by rw [hv0.out]; omega), rfl⟩
def DigitsOf (s : ByteArray) (w : World) (e : Ending) (w' : World) : Prop :=
 ∃ bp bs : Nat, e = .returned (.func (.func 218) #[] #[.pointer (some ⟨bp, 0, none⟩), .pointer (some ⟨bs, 0, none⟩)]) /\ Has w' s bp bs /\ Below w.heap.size w w'
theorem digitsOf_any (s : ByteArray) (en : Int) (w : World) :
 Calls Tryz.prog 199 #[.string s, .agg #[.int .i64 (Fx.spS s.data.toList : Nat), .int .i64 (Fx.spW s.data.toList : Nat), .int .i64 (Fx.spD s.data.toList : Nat), .int .i64 en]] w (DigitsOf s w) := by
 have hmf : ∀ (fn : Fn) (first cap : Array Value) (w : World), (Instr.makeFunc fn first cap).run Tryz.prog w = .ok (.func fn first cap) w := fun _ _ _ _ => rfl
 go_enter Tryz.func199, Tryz.ntmps199
 go_wp2_with fail
 go_ret
 refine ⟨w.heap.size + 1, w.heap.size, by simp, ⟨?_, ?_, ?_, ?_⟩, ?_⟩
 ·simp [go_sem]
 ·simp [go_sem]
 ·simp [go_sem]
 ·simp [go_sem]
 ·exact (((Below.refl _ _).alloc (Nat.le_refl _) _).alloc (by simp) _)
theorem len_no {l : List UInt8} (h : Fx.spD l = Fx.spS l) : Fx.len l = 0 := by unfold Fx.len; rw [if_pos h]
theorem len_yes {l : List UInt8} (h : ¬ Fx.spD l = Fx.spS l) : Fx.len l = Fx.spE l := by unfold Fx.len; rw [if_neg h]
theorem parse_no (s : ByteArray) (w : World) (hs : s.size <= 70000) (hn : Fx.isDec s.data.toList = false) :
 Calls Tryz.prog 159 #[.string s] w fun e w' => e = .returned (.tuple #[.int .i64 0, .bool false]) /\ Below w.heap.size w w' := by
 have hs' : s.size <= maxLen := by unfold maxLen; omega
 have hl : s.data.toList.length = s.size := by simp
 by_cases h : Fx.spD s.data.toList = Fx.spS s.data.toList
 ·have C := Lib.hid fun w => split_no s w hs' h
  clear h hn hl hs'
  go_enter Tryz.func159, Tryz.ntmps159
  go_wp2_with (go_at_call 196; ((with_reducible refine (C.out _).mono ?_); rintro e w' ⟨rfl, hb⟩; unfold parts))
  go_ret2
  exact ⟨rfl, hb.alloc hb.size _⟩
 ·have C := Lib.hid fun w => split_yes s w hs' h
  have hE : Fx.spE s.data.toList < s.size := by
   have h1 := of_decide_eq_false hn
   rw [len_yes h, hl] at h1
   have h2 := Fx.spE_hi s.data.toList
   have h3 := Fx.spE_lo s.data.toList
   have h4 := Fx.spD_lo s.data.toList
   have h5 := Fx.spW_lo s.data.toList
   have : Fx.spE s.data.toList ≠ 0 := by omega
   have : ¬ Fx.spE s.data.toList = s.size := fun e => h1 ⟨this, e⟩
   omega
  generalize Fx.spE s.data.toList = en at *
  generalize Fx.spD s.data.toList = d at *
  generalize Fx.spW s.data.toList = wh at *
  generalize Fx.spS s.data.toList = j at *
  clear h hn hl hs'
  go_enter Tryz.func159, Tryz.ntmps159
  go_wp2_with (go_at_call 196; ((with_reducible refine (C.out _).mono ?_); rintro e w' ⟨rfl, hb⟩; unfold parts))
  all_goals (go_ret2; exact ⟨rfl, hb.alloc hb.size _⟩)
theorem parse_yes (s : ByteArray) (w : World) (hs : s.size <= 70000) (hn : Fx.isDec s.data.toList = true) :
 Calls Tryz.prog 159 #[.string s] w fun e w' => e = .returned (.tuple #[.int .i64 (Fx.num s.data.toList), .bool true]) /\ Below w.heap.size w w' := by
 have hs' : s.size <= maxLen := by unfold maxLen; omega
 have hl : s.data.toList.length = s.size := by simp
 have hn' := of_decide_eq_true hn
 have h : ¬ Fx.spD s.data.toList = Fx.spS s.data.toList := fun h => hn'.1 (len_no h)
 rw [len_yes h, hl] at hn'
 have C := Lib.hid fun w => split_yes s w hs' h
 rw [hn'.2] at C
 have CX : Hid (∀ w : World, Calls Tryz.prog 197 #[.string (s.extract (Fx.spD s.data.toList) s.size)] w fun e w' => e = .returned (.int .i64 (Fx.expo s.data.toList)) /\ Below w.heap.size w w') :=
  Lib.hid fun w => exponent_any s _ w hs' (Lib.extract_to_end s _) hn'.2
 have CD := Lib.hid (fun w => digitsOf_any s (s.size : Int) w)
 have CL : Hid (∀ (bp bs : Nat) (p : Int) (w : World), p <= 10000000 -> -10000000 <= p -> Has w s bp bs -> Calls Tryz.prog 198 #[.func (.func 218) #[] #[.pointer (some ⟨bp, 0, none⟩), .pointer (some ⟨bs, 0, none⟩)], .int .i64 ((Fx.spD s.data.toList : Int) - (Fx.spS s.data.toList : Int)), .int .i64 p] w fun e w' => e = .returned (.int .i64 (min (Fx.V (Fx.dgt s.data.toList) p.toNat : Nat) 1099511627776)) /\ w = w') :=
  Lib.hid fun bp bs p w h1 h2 h3 => leading_any s bp bs p w hs h1 h2 h3
 have hx := Fx.expo_bd s.data.toList
 have hnum : Hid (Fx.num s.data.toList = if Fx.at' s.data.toList 0 = 45 then - min ((Fx.V (Fx.dgt s.data.toList) (((Fx.spW s.data.toList - Fx.spS s.data.toList : Nat) : Int) + Fx.expo s.data.toList + 3).toNat : Nat) : Int) 1099511627776 else min ((Fx.V (Fx.dgt s.data.toList) (((Fx.spW s.data.toList - Fx.spS s.data.toList : Nat) : Int) + Fx.expo s.data.toList + 3).toNat : Nat) : Int) 1099511627776) := Lib.hid rfl
 have b1 := Fx.spS_hi s.data.toList
 have b2 := Fx.spW_hi s.data.toList
 have b3 := Fx.spW_lo s.data.toList
 have b4 := Fx.spD_hi s.data.toList
 have b5 := Fx.spD_lo s.data.toList
 have b6 := Fx.spE_lo s.data.toList
 rw [hl] at b1 b2 b4
 rw [hn'.2] at b6
 have hp : 0 < s.size := by omega
 have hat := Lib.hid (Fx.get_at s 0 hp)
 have hne : ((s.size : Int) == 0) = false := by rw [beq_eq_false_iff_ne]; omega
 generalize Fx.expo s.data.toList = x at *
 generalize Fx.num s.data.toList = r at *
 generalize Fx.spD s.data.toList = d at *
 generalize Fx.spW s.data.toList = wh at *
 generalize Fx.spS s.data.toList = j at *
 generalize Fx.dgt s.data.toList = f at *
 clear h hn hn' hl hs'
 go_enter Tryz.func159, Tryz.ntmps159
 go_upto_region 4 with (go_at_call 196; ((with_reducible refine (C.out _).mono ?_); rintro e w1 ⟨rfl, hb⟩; unfold parts))
 have hsz := hb.size
 have k0 : (w1.alloc (.cells #[.int .i64 j, .int .i64 wh, .int .i64 d, .int .i64 s.size] 191)).cell? ⟨w1.heap.size, 0, none⟩ = some (.int .i64 j) := by simp [go_sem]
 have k1 : (w1.alloc (.cells #[.int .i64 j, .int .i64 wh, .int .i64 d, .int .i64 s.size] 191)).cell? ⟨w1.heap.size, 1, none⟩ = some (.int .i64 wh) := by simp [go_sem]
 have k2 : (w1.alloc (.cells #[.int .i64 j, .int .i64 wh, .int .i64 d, .int .i64 s.size] 191)).cell? ⟨w1.heap.size, 2, none⟩ = some (.int .i64 d) := by simp [go_sem]
 have k3 : (w1.alloc (.cells #[.int .i64 j, .int .i64 wh, .int .i64 d, .int .i64 s.size] 191)).cell? ⟨w1.heap.size, 3, none⟩ = some (.int .i64 s.size) := by simp [go_sem]
 have kb : Below w.heap.size w (w1.alloc (.cells #[.int .i64 j, .int .i64 wh, .int .i64 d, .int .i64 s.size] 191)) := hb.alloc hsz _
 have kz : w1.heap.size < (w1.alloc (.cells #[.int .i64 j, .int .i64 wh, .int .i64 d, .int .i64 s.size] 191)).heap.size := by simp
 generalize w1.alloc (.cells #[.int .i64 j, .int .i64 wh, .int .i64 d, .int .i64 s.size] 191) = W at *
 generalize w1.heap.size = b at *
 clear hb hsz C
 have hX := Lib.hid hx
 obtain ⟨hx1, hx2⟩ := hx
 have kd0 : (0 : Int) <= (d : Int) := by omega
 have kd1 : (d : Int) <= (s.size : Int) := by omega
 have KB := Lib.hid kb
 clear kb
 go_cut [5] (fun s5 wx => s5 = .int .i64 ((wh : Int) - (j : Int) + x + 3) /\ wx.cell? ⟨b, 0, none⟩ = some (.int .i64 j) /\ wx.cell? ⟨b, 1, none⟩ = some (.int .i64 wh) /\ wx.cell? ⟨b, 2, none⟩ = some (.int .i64 d) /\ wx.cell? ⟨b, 3, none⟩ = some (.int .i64 s.size) /\ Hid (Below w.heap.size w wx) /\ b < wx.heap.size)
 case first =>
  clear hat hne hnum CD CL
  go_region_held3 (fun w' => w'.cell? ⟨b, 0, none⟩ = some (.int .i64 j) /\ w'.cell? ⟨b, 1, none⟩ = some (.int .i64 wh) /\ w'.cell? ⟨b, 2, none⟩ = some (.int .i64 d) /\ w'.cell? ⟨b, 3, none⟩ = some (.int .i64 s.size))
   (first
    | go_keep
    | (go_split_ands; exact ⟨(hb1.cell kz).trans (by assumption), (hb1.cell kz).trans (by assumption), (hb1.cell kz).trans (by assumption), (hb1.cell kz).trans (by assumption)⟩))
   (first
    | (go_at_call 197; refine (CX.out _).mono ?_; rintro e w2 ⟨rfl, hb1⟩))
  obtain ⟨q0, q1, q2, q3⟩ := ‹w2.cell? _ = _ /\ _›
  have e1 : IntKind.i64.wrap ((wh : Int) - (j : Int)) = (wh : Int) - (j : Int) := IntWalk.i64_in _ (by omega)
  have e2 : IntKind.i64.wrap ((wh : Int) - (j : Int) + x) = (wh : Int) - (j : Int) + x := IntWalk.i64_in _ (by omega)
  have e3 : IntKind.i64.wrap ((wh : Int) - (j : Int) + x + 3) = (wh : Int) - (j : Int) + x + 3 := IntWalk.i64_in _ (by omega)
  go_wp2_with fail
  go_meet
  exact ⟨congrArg (Value.int .i64) (by rw [e1, e2, e3]), q0, q1, q2, q3, Lib.hid (KB.out.drew.trans (hb1.mono (by have := KB.out.size; simpa using this))), by have := hb1.size; simp at this; omega⟩
 case rest =>
  obtain ⟨rfl, c0, c1, c2, c3, hB, hbz⟩ := hcut
  clear k0 k1 k2 k3 kz KB CX
  have ew : IntKind.i64.wrap ((d : Int) - (j : Int)) = (d : Int) - (j : Int) := IntWalk.i64_in _ (by omega)
  have hp1 : (wh : Int) - (j : Int) + x + 3 <= 10000000 := by omega
  have hp2 : -10000000 <= (wh : Int) - (j : Int) + x + 3 := by omega
  clear hX
  go_upto_region 5 with fail
  go_cut [6] (fun s6 wx => s6 = .int .i64 (min (Fx.V f ((wh : Int) - (j : Int) + x + 3).toNat : Nat) 1099511627776) /\ Hid (Below w.heap.size w wx))
  case first =>
   clear hat hne hnum
   go_region_held3 (fun w' => w'.cell? ⟨b, 0, none⟩ = some (.int .i64 j) /\ w'.cell? ⟨b, 1, none⟩ = some (.int .i64 wh) /\ w'.cell? ⟨b, 2, none⟩ = some (.int .i64 d) /\ w'.cell? ⟨b, 3, none⟩ = some (.int .i64 s.size))
    (first
     | go_keep
     | (go_split_ands; exact ⟨(hb1.cell hbz).trans (by assumption), (hb1.cell hbz).trans (by assumption), (hb1.cell hbz).trans (by assumption), (hb1.cell hbz).trans (by assumption)⟩))
    (first
     | (go_at_call 199; refine (CD.out _).mono ?_; rintro e w2 ⟨bp, bs, rfl, hH, hb1⟩)
     | (go_at_call 198; refine (CL.out _ _ _ _ hp1 hp2 hH).mono ?_; rintro e w3 ⟨rfl, rfl⟩))
   have hb2 := hb1.size
   go_wp2_with fail
   go_meet
   exact ⟨rfl, Lib.hid (hB.out.drew.trans (hb1.mono (by have := hB.out.size; simpa using this)))⟩
  case rest =>
   obtain ⟨rfl, hB2⟩ := hcut
   have en : ((wh - j : Nat) : Int) = (wh : Int) - (j : Int) := by omega
   rw [en] at hnum
   clear en ew c0 c1 c2 c3 CD CL hB
   obtain ⟨v, hv, hv1, hv2⟩ : ∃ v : Int, v = min ((Fx.V f ((wh : Int) - (j : Int) + x + 3).toNat : Nat) : Int) 1099511627776 /\ 0 <= v /\ v <= 1099511627776 := ⟨_, rfl, by omega, by omega⟩
   rw [<- hv] at hnum
   rw [<- hv]
   clear hv
   by_cases h45 : s[0] = 45
   ·have hb45 : ((s[0].toNat : Int) == 45) = true := by rw [h45]; rfl
    have HN : Hid (r = -v) := Lib.hid (by rw [hnum.out, hat.out, if_pos h45])
    clear h45 hnum hat
    go_wp2_with fail
    go_ret2
    exact ⟨by rw [HN.out]; rfl, hB2⟩
   ·have hb45 : ((s[0].toNat : Int) == 45) = false := by
     rw [Bool.eq_false_iff]; intro hh; exact h45 ((byte_eq (n := 45) (by decide)).1 hh)
    have HN : Hid (r = v) := Lib.hid (by rw [hnum.out, hat.out, if_neg h45])
    clear h45 hnum hat
    go_wp2_with fail
    go_ret2
    exact ⟨by rw [HN.out]; rfl, hB2⟩
end Go.Proofs.YtllmjggejbdpcaaGreatDoor
