/-
  Walks of gather and of its closures: a text that grows by characters.
-/
import Derived.Test.YtgcmjkimiakibaaGreatDoorGbb
import Derived.Test.YtgcmjkimiakibaaGreatDoorGac
import Derived.Test.YtgcmjkimiakibaaGreatDoorGbc
import Derived.Test.YtgcmjkimiakibaaGreatDoorGae
import Derived.Test.YtgcmjkimiakibaaGreatDoorGal
import Derived.Deep.LoopGhost
namespace Go.Proofs.YtgcmjkimiakibaaGreatDoor
open Go.RowKit

theorem Tryz.info32 : (Tryz.prog.info? 21).map (fun i => (i.zero, i.size, i.bytes)) = some (some (.int .i32 0), 1, 4) := by kernel_rfl
/-- numbers that an i32 holds -/
def W32 (ds : List Int) : Prop := ∀ c ∈ ds, -2147483648 ≤ c ∧ c ≤ 2147483647
theorem W32.add {ds : List Int} {x : Int} (h : W32 ds) (h1 : -2147483648 ≤ x) (h2 : x ≤ 2147483647) : W32 (ds ++ [x]) := by
  intro c hc
  rw [List.mem_append, List.mem_singleton] at hc
  rcases hc with hc | rfl
  · exact h c hc
  · exact ⟨h1, h2⟩
/-- what gather hands back -/
abbrev addF (c : Nat) : Value := .func (.func 90) #[] #[.pointer (some ⟨c, 0, none⟩)]
abbrev toldF (c : Nat) : Value := .func (.func 91) #[] #[.pointer (some ⟨c, 0, none⟩)]
def Gathered (w : World) (e : Ending) (w' : World) : Prop :=
  ∃ c : Nat, e = .returned (.tuple #[addF c, toldF c]) ∧ w.heap.size ≤ c ∧ Ga w' c [] ∧ Below w.heap.size w w'

set_option maxRecDepth 100000 in
set_option maxHeartbeats 400000 in
theorem gather_any (w : World) : Calls Tryz.prog 69 #[] w (Gathered w) := by
  have hmf : ∀ (fn : Fn) (first cap : Array Value) (w : World), (Instr.makeFunc fn first cap).run Tryz.prog w = .ok (.func fn first cap) w := fun _ _ _ _ => rfl
  go_enter Tryz.func69, Tryz.ntmps69
  go_wp2_with fail
  go_ret2
  refine ⟨w.heap.size, rfl, Nat.le_refl _, ⟨_, heap_alloc_new w _, World.ownsRow_nil _ _ _ _⟩, (Below.refl _ _).alloc (Nat.le_refl _) _⟩

theorem row_form {w : World} {B : Nat} {E : TypeId} {m n : Nat} {v : Value} {xs : List Value} (h : w.ownsRow B E m v n xs) : ∃ (A : Option Addr) (cap : Nat), v = .slice A n cap := by
  rcases h.2 with ⟨rfl, h0⟩ | ⟨x, cap, cur, rfl, _, _, _, _⟩
  · exact ⟨none, 0, by rw [h0]⟩
  · exact ⟨_, cap, rfl⟩
/-- what add has come to -/
def Added (c : Nat) (ds : List Int) (w : World) (e : Ending) (w' : World) : Prop := e = .returned (.tuple #[]) ∧ Ga w' c ds ∧ Below c w w'
set_option maxRecDepth 100000 in
set_option maxHeartbeats 1000000 in
theorem add_any' (c : Nat) (ds : List Int) (x : Int) (w : World) (hd : ds.length ≤ 65536) (h : Ga w c ds) :
    Calls Tryz.prog 90 #[.int .i32 x, .pointer (some ⟨c, 0, none⟩)] w (Added c (ds ++ [x]) w) := by
  obtain ⟨i0, hi, hz0, hz1, hz2⟩ := info_parts Tryz.info32
  obtain ⟨v, hblk, hown⟩ := h
  have hcs := lt_of_block hblk
  have hcell := cell_of_one hblk
  have HK := Lib.hid hblk
  have HO := Lib.hid hown
  have hc3 : ds.length + 1 ≤ maxLen := by unfold maxLen; omega
  have hc4 : (ds.length + 1) * 4 ≤ 140737488355328 := by omega
  clear hblk hown
  go_enter Tryz.func90, Tryz.ntmps90
  go_wp2_with (at_builtin; refine wpList_append_own _ rfl _ _ 38 rfl (c + 1) 21 i0 (.int .i32 0) 1 4 Tryz.underlying38 hi hz0 hz1 hz2 rfl (by decide) _ _ _ rfl (HO.out.alloc _) ⟨w.heap.size, 0, none⟩ 1 1 [.int .i32 x] rfl rfl (one_cell _ _) (one_ok _) hc3 hc4 (alloc_size (show c + 1 ≤ w.heap.size by omega) _) ?_; intro v' w3 hown3 hgrow _; obtain ⟨A5, c5, rfl⟩ := row_form hown3; have HB3 := Lib.hid (((hgrow.block c (by simp; omega) (fun e => by have := (HO.out.lt c e.symm).1; omega)).trans (Below.heap_alloc w _ c hcs)).trans HK.out); have k3 := cell_of_one HB3.out; have f3 := free_of_one HB3.out; have HG := Lib.hid (((Below.refl c w).alloc (Nat.le_of_lt hcs) _).grown hgrow (by simp; omega) (fun j hj => by have := (HO.out.lt j hj).1; omega)); have HO3 := Lib.hid hown3; clear hown3 hgrow)
  go_end0
  refine ⟨rfl, ⟨_, one_setCell HB3.out, ?_⟩, HG.out.setCell (Nat.le_refl _) _⟩
  have := ownsRow_setCell_below HO3.out (a := ⟨c, 0, none⟩) (Nat.lt_succ_self c) (.slice A5 (ds.length + 1) c5)
  rw [nums_app, List.length_append]
  exact this

set_option maxRecDepth 100000 in
set_option maxHeartbeats 400000 in
theorem told_any (c : Nat) (ds : List Int) (w : World) (hd : ds.length ≤ 65536) (hr : W32 ds) (h : Ga w c ds) :
    Calls Tryz.prog 91 #[.pointer (some ⟨c, 0, none⟩)] w fun e w' => e = .returned (.string (Tk.str ds)) ∧ Below w.heap.size w w' := by
  obtain ⟨v, hblk, hown⟩ := h
  obtain ⟨A1, c1, hv, k1, B1⟩ := own_bs hown
  subst hv
  have hcell := cell_of_one hblk
  have C1 := Lib.hid ((write_any ds A1 c1 w hd k1 hr B1).mono fun _ _ h => made_form h)
  clear hblk hown B1
  unfold Tk.str
  generalize Ru.wr ds = r at *
  go_enter Tryz.func91, Tryz.ntmps91
  go_wp2_with (go_at_call 77; ((with_reducible refine (C1.out).mono ?_); rintro e w1 ⟨A2, c2, rfl, k2, B2, b2⟩; have cv := conv_bytes c2 B2))
  go_ret
  exact ⟨rfl, b2⟩
end Go.Proofs.YtgcmjkimiakibaaGreatDoor

/-
  The walk of the scanner's quoted.
-/
namespace Go.Proofs.YtgcmjkimiakibaaGreatDoor
open Go.RowKit

section
variable {w : World} {g cap k : Nat} {A : Option Addr} {l : List Int} {pl : ByteArray}

/-- in a text in quotes -/
def QuoS (g : Nat) (A : Option Addr) (cap : Nat) (l : List Int) (pl : ByteArray) (e : Int) (k0 c b : Nat) (w : World) (r : Nat) (wr : World) : Prop :=
  ∃ (j : Nat) (ds : List Int), j ≤ l.length ∧ l.length - j ≤ r ∧ ds.length ≤ j ∧ Hid (Tk.qq l e k0 = Tk.pushes ds (Tk.qq l e j)) ∧ Hid (W32 ds) ∧ Sc wr g A cap l pl j ∧ Ga wr c ds ∧ Tz wr b ∧ Mv g w wr

set_option maxRecDepth 100000 in
set_option maxHeartbeats 8000000 in
theorem quoted_any (hC : Tk.Chr l) (hm : l.length ≤ 65000) (hk : k < l.length) (hq : Ru.g l k = 34 ∨ Ru.g l k = 39) (S : Sc w g A cap l pl k) :
    Calls Tryz.prog 36 #[.pointer (some ⟨g, 0, none⟩)] w (Stp g A cap l pl (Tk.qq l (Ru.g l k) (k + 1)).2.2 (tokV (Tk.qq l (Ru.g l k) (k + 1)).1 (Tk.str (Tk.qq l (Ru.g l k) (k + 1)).2.1) 0) w) := by
  have HC := Lib.hid hC
  have hgb := S.lt
  have S := S.alloc (.cells #[.int .i64 0, .string ⟨#[]⟩, .int .i64 0] 32)
  have M := (Mv.refl g w).alloc (.cells #[.int .i64 0, .string ⟨#[]⟩, .int .i64 0] 32)
  have Z := Tz.new w
  have S0 := S.lt
  have M0 : w.heap.size ≤ (w.alloc (.cells #[.int .i64 0, .string ⟨#[]⟩, .int .i64 0] 32)).heap.size := by simp
  have M1 : w.heap.size < (w.alloc (.cells #[.int .i64 0, .string ⟨#[]⟩, .int .i64 0] 32)).heap.size := by simp
  have T0 : Hid (∀ w', Sc w' g A cap l pl k → Calls Tryz.prog 39 #[.pointer (some ⟨g, 0, none⟩)] w' (Stp g A cap l pl (k + 1) (.int .i32 (Ru.g l k)) w')) := Lib.hid fun w' h => by have := take_in (by omega) hk h; rwa [Tk.at_in hk] at this
  generalize Ru.g l k = e at *
  clear hC
  go_enter Tryz.func36, Tryz.ntmps36
  go_wp2_with (first | (go_at_call 69; ((with_reducible refine (gather_any _).mono ?_); rintro e w1 ⟨c, rfl, hc, G, b1⟩; have Z := Z.below b1 (by simp); have S := S.below b1 S.lt; have M := M.then_ b1 M.size; have hgc := Nat.lt_of_lt_of_le S0 hc; have hcs := Nat.le_trans M0 hc; have hbc := Nat.lt_of_lt_of_le M1 hc; clear b1)) | (go_at_call 39; (first | (with_reducible refine (T0.out _ S).mono ?_)); rintro e w1 ⟨rfl, S, m1⟩; have G := G.mv m1 hgc; have Z := Z.mv m1 hgb; have M := M.trans m1; clear m1))
  clear T0
  go_loopg [] l.length (fun r wr => QuoS g A cap l pl e (k + 1) c w.heap.size w r wr)
  case atStart => exact ⟨k + 1, [], by omega, by omega, by simp, Lib.hid rfl, Lib.hid (fun c hc => absurd hc (by simp)), S, G, Z, M⟩
  case round =>
    clear S G Z M
    obtain ⟨j, ds, hj, hr, hdl, HQ, HW, S, G, Z, M⟩ := hrel
    have hd : ds.length ≤ 65536 := by omega
    have C0 : Hid (∀ w', Sc w' g A cap l pl j → Calls Tryz.prog 17 #[.pointer (some ⟨g, 0, none⟩), .int .i64 0] w' (Stp g A cap l pl j (.int .i32 (Tk.at' l j)) w')) := Lib.hid fun w' h => peek_any 0 0 rfl (by omega) hj (by omega) h
    have E0 : Hid (∀ w', Sc w' g A cap l pl j → Calls Tryz.prog 38 #[.pointer (some ⟨g, 0, none⟩), .int .i64 0] w' (Stp g A cap l pl j (.bool (Tk.esc l j)) w')) := Lib.hid fun w' h => escapes_any 0 0 rfl HC.out.pos (by omega) hj (by omega) h
    have T0 : Hid (∀ w', Sc w' g A cap l pl j → Calls Tryz.prog 39 #[.pointer (some ⟨g, 0, none⟩)] w' (Stp g A cap l pl (min (j + 1) l.length) (.int .i32 (Tk.at' l j)) w')) := Lib.hid fun w' h => take_any (by omega) hj h
    have P2 : Hid (∀ w', Sc w' g A cap l pl j → Calls Tryz.prog 71 #[.pointer (some ⟨g, 0, none⟩), .int .i64 2] w' (Stp g A cap l pl (min (j + 2) l.length) (.tuple #[]) w')) := Lib.hid fun w' h => pass_any 2 2 rfl (by omega) hj (by omega) h
    by_cases hlt : j < l.length
    · have hmin : min (j + 1) l.length = j + 1 := by omega
      by_cases hge : Ru.g l j = e
      · have HE : Hid (Tk.qq l e (k + 1) = (6, ds, min (j + 1) l.length)) := Lib.hid (by rw [HQ.out, Tk.qq_end (fun h => h.2 hge)]; simp [Tk.pushes])
        rw [Tk.at_in hlt, hge] at C0 T0
        clear hge HQ E0 P2 hmin
        go_wp2_with (first | (go_at_call 17; (first | (with_reducible refine (C0.out _ S).mono ?_)); rintro e w1 ⟨rfl, S, m1⟩; have G := G.mv m1 hgc; have Z := Z.mv m1 hgb; have M := M.trans m1; clear m1) | (go_at_call 39; (first | (with_reducible refine (T0.out _ S).mono ?_)); rintro e w1 ⟨rfl, S, m1⟩; have G := G.mv m1 hgc; have Z := Z.mv m1 hgb; have M := M.trans m1; clear m1) | (go_at_call 91; ((with_reducible refine (told_any c ds _ hd HW.out G).mono ?_); rintro e w1 ⟨rfl, b1⟩; have S := S.below b1 S.lt; have M := M.then_ b1 M.size; have Z := Z.below b1 (lt_of_block Z); clear b1); obtain ⟨z0, z1, z2, f0, f1, f2⟩ := Z.cells))
        refine bodyPost_ret (v := tokV (6) (Tk.str ds) (0)) (by simp [results, tokV, Tryz.results36, go_sem, z0, z1, z2]) rfl ⟨by rw [HE.out], sc_stores (by rw [HE.out]; exact S) hgb _ _ _, tz_stores M (Nat.le_refl _) _ _ _⟩
      · have hgb0 := HC.out.g hlt
        have n1 := Ru.eq_f hge
        have n2 := Ru.eq_f (show ¬ Ru.g l j = -1 by omega)
        have hst := Tk.qq_step (l := l) (e := e) ⟨hlt, hge⟩
        rw [Tk.at_in hlt] at C0 T0
        by_cases h10 : Ru.g l j = 10
        · rw [if_pos h10] at hst
          have HE : Hid (Tk.qq l e (k + 1) = (7, ds, j)) := Lib.hid (by rw [HQ.out, hst]; simp [Tk.pushes])
          rw [h10] at C0 n1
          clear hge hgb0 n2 hst h10 HQ E0 P2 T0 hmin
          go_wp2_with (first | (go_at_call 17; (first | (with_reducible refine (C0.out _ S).mono ?_)); rintro e w1 ⟨rfl, S, m1⟩; have G := G.mv m1 hgc; have Z := Z.mv m1 hgb; have M := M.trans m1; clear m1) | (go_at_call 91; ((with_reducible refine (told_any c ds _ hd HW.out G).mono ?_); rintro e w1 ⟨rfl, b1⟩; have S := S.below b1 S.lt; have M := M.then_ b1 M.size; have Z := Z.below b1 (lt_of_block Z); clear b1); obtain ⟨z0, z1, z2, f0, f1, f2⟩ := Z.cells))
          refine bodyPost_ret (v := tokV (7) (Tk.str ds) (0)) (by simp [results, tokV, Tryz.results36, go_sem, z0, z1, z2]) rfl ⟨by rw [HE.out], sc_stores (by rw [HE.out]; exact S) hgb _ _ _, tz_stores M (Nat.le_refl _) _ _ _⟩
        · rw [if_neg h10] at hst
          have n10 := Ru.eq_f h10
          cases he : Tk.esc l j
          · rw [he, if_neg (by decide)] at hst
            rw [he] at E0
            by_cases h92 : Ru.g l j = 92
            · rw [if_pos h92, Tk.qq_clamp (k := j + 2)] at hst
              have HE : Hid (Tk.qq l e (k + 1) = Tk.pushes ds (Tk.qq l e (min (j + 2) l.length))) := Lib.hid (by rw [HQ.out, hst])
              rw [h92] at C0 n1
              clear hge hgb0 n2 n10 hst h10 HQ T0 hmin he h92
              go_wp2_with (first | (go_at_call 17; (first | (with_reducible refine (C0.out _ S).mono ?_)); rintro e w1 ⟨rfl, S, m1⟩; have G := G.mv m1 hgc; have Z := Z.mv m1 hgb; have M := M.trans m1; clear m1) | (go_at_call 38; (first | (with_reducible refine (E0.out _ S).mono ?_)); rintro e w1 ⟨rfl, S, m1⟩; have G := G.mv m1 hgc; have Z := Z.mv m1 hgb; have M := M.trans m1; clear m1) | (go_at_call 71; (first | (with_reducible refine (P2.out _ S).mono ?_)); rintro e w1 ⟨rfl, S, m1⟩; have G := G.mv m1 hgc; have Z := Z.mv m1 hgb; have M := M.trans m1; clear m1))
              go_roundg (l.length - min (j + 2) l.length)
              case measure => omega
              case rel => exact ⟨min (j + 2) l.length, ds, by omega, by omega, by omega, HE, HW, S, G, Z, M⟩
            · rw [if_neg h92] at hst
              have n92 := Ru.eq_f h92
              have HE : Hid (Tk.qq l e (k + 1) = Tk.pushes (ds ++ [Ru.g l j]) (Tk.qq l e (j + 1))) := Lib.hid (by rw [HQ.out, hst]; simp [Tk.pushes, Tk.push])
              have HW2 : Hid (W32 (ds ++ [Ru.g l j])) := Lib.hid (HW.out.add (by omega) (by omega))
              rw [hmin] at T0
              clear hge hgb0 hst h10 HQ P2 hmin he h92
              generalize Ru.g l j = y at *
              go_wp2_with (first | (go_at_call 17; (first | (with_reducible refine (C0.out _ S).mono ?_)); rintro e w1 ⟨rfl, S, m1⟩; have G := G.mv m1 hgc; have Z := Z.mv m1 hgb; have M := M.trans m1; clear m1) | (go_at_call 38; (first | (with_reducible refine (E0.out _ S).mono ?_)); rintro e w1 ⟨rfl, S, m1⟩; have G := G.mv m1 hgc; have Z := Z.mv m1 hgb; have M := M.trans m1; clear m1) | (go_at_call 39; (first | (with_reducible refine (T0.out _ S).mono ?_)); rintro e w1 ⟨rfl, S, m1⟩; have G := G.mv m1 hgc; have Z := Z.mv m1 hgb; have M := M.trans m1; clear m1) | (go_at_call 90; ((with_reducible refine (add_any' c ds y _ hd G).mono ?_); rintro e w1 ⟨rfl, G, b1⟩; have S := S.below b1 hgc; have M := M.then_ b1 hcs; have Z := Z.below b1 hbc; clear b1)))
              go_roundg (l.length - (j + 1))
              case measure => omega
              case rel => exact ⟨j + 1, ds ++ [y], by omega, by omega, by simp; omega, HE, HW2, S, G, Z, M⟩
          · rw [if_pos he] at hst
            rw [he] at E0
            have hml := Tk.meant_le (Tk.esc_lt he).1
            have hmb := HC.out.meant_ he
            have HE : Hid (Tk.qq l e (k + 1) = Tk.pushes (ds ++ [(Tk.meant l j).1]) (Tk.qq l e (Tk.meant l j).2)) := Lib.hid (by rw [HQ.out, hst]; simp [Tk.pushes, Tk.push])
            have HW2 : Hid (W32 (ds ++ [(Tk.meant l j).1])) := Lib.hid (HW.out.add (by omega) (by omega))
            have X0 : Hid (∀ w', Sc w' g A cap l pl j → Calls Tryz.prog 70 #[.pointer (some ⟨g, 0, none⟩)] w' (Stp g A cap l pl (Tk.meant l j).2 (.int .i32 (Tk.meant l j).1) w')) := Lib.hid fun w' h => escape_any (by omega) he h
            clear hge hgb0 hst h10 HQ P2 hmin he T0
            generalize Ru.g l j = y at *
            generalize Tk.meant l j = me at *
            obtain ⟨x, j2⟩ := me
            simp only at HE HW2 X0 hml hmb
            go_wp2_with (first | (go_at_call 17; (first | (with_reducible refine (C0.out _ S).mono ?_)); rintro e w1 ⟨rfl, S, m1⟩; have G := G.mv m1 hgc; have Z := Z.mv m1 hgb; have M := M.trans m1; clear m1) | (go_at_call 38; (first | (with_reducible refine (E0.out _ S).mono ?_)); rintro e w1 ⟨rfl, S, m1⟩; have G := G.mv m1 hgc; have Z := Z.mv m1 hgb; have M := M.trans m1; clear m1) | (go_at_call 70; (first | (with_reducible refine (X0.out _ S).mono ?_)); rintro e w1 ⟨rfl, S, m1⟩; have G := G.mv m1 hgc; have Z := Z.mv m1 hgb; have M := M.trans m1; clear m1) | (go_at_call 90; ((with_reducible refine (add_any' c ds x _ hd G).mono ?_); rintro e w1 ⟨rfl, G, b1⟩; have S := S.below b1 hgc; have M := M.then_ b1 hcs; have Z := Z.below b1 hbc; clear b1)))
            go_roundg (l.length - j2)
            case measure => omega
            case rel => exact ⟨j2, ds ++ [x], by omega, by omega, by simp; omega, HE, HW2, S, G, Z, M⟩
    · have HE : Hid (Tk.qq l e (k + 1) = (6, ds, min (j + 1) l.length)) := Lib.hid (by rw [HQ.out, Tk.qq_end (fun h => hlt h.1)]; simp [Tk.pushes])
      have n1 : ((-1 : Int) == e) = false := Ru.eq_f (by omega)
      rw [Tk.at_out hlt] at C0 T0
      clear HQ E0 P2
      go_wp2_with (first | (go_at_call 17; (first | (with_reducible refine (C0.out _ S).mono ?_)); rintro e w1 ⟨rfl, S, m1⟩; have G := G.mv m1 hgc; have Z := Z.mv m1 hgb; have M := M.trans m1; clear m1) | (go_at_call 39; (first | (with_reducible refine (T0.out _ S).mono ?_)); rintro e w1 ⟨rfl, S, m1⟩; have G := G.mv m1 hgc; have Z := Z.mv m1 hgb; have M := M.trans m1; clear m1) | (go_at_call 91; ((with_reducible refine (told_any c ds _ hd HW.out G).mono ?_); rintro e w1 ⟨rfl, b1⟩; have S := S.below b1 S.lt; have M := M.then_ b1 M.size; have Z := Z.below b1 (lt_of_block Z); clear b1); obtain ⟨z0, z1, z2, f0, f1, f2⟩ := Z.cells))
      refine bodyPost_ret (v := tokV (6) (Tk.str ds) (0)) (by simp [results, tokV, Tryz.results36, go_sem, z0, z1, z2]) rfl ⟨by rw [HE.out], sc_stores (by rw [HE.out]; exact S) hgb _ _ _, tz_stores M (Nat.le_refl _) _ _ _⟩
end
end Go.Proofs.YtgcmjkimiakibaaGreatDoor
