/-
  The walks of the law's own helpers: ints, same.
-/
import Derived.Test.YtakafhjnkcilkaaDoorRuY
namespace Go.Proofs.YtakafhjnkcilkaaDoor
open Go.RowKit

namespace Ru
theorem g_eq {l : List Int} {k : Nat} (h : k < l.length) : g l k = l[k] := by
  unfold g; rw [List.getD_eq_getElem?_getD, List.getElem?_eq_getElem h]; rfl
theorem take_g {l : List Int} {k : Nat} (h : k < l.length) : l.take (k + 1) = l.take k ++ [g l k] := by
  rw [List.take_succ_eq_append_getElem h, g_eq h]
theorem eq_of_g {a b : List Int} (h : a.length = b.length) (hg : ∀ j, j < a.length → g a j = g b j) : a = b := by
  apply List.ext_getElem h
  intro i h1 h2
  rw [← g_eq h1, ← g_eq h2]
  exact hg i h1
theorem ne_f {a b : Int} (h : a = b) : (a != b) = false := by simp [h]
theorem ne_t {a b : Int} (h : ¬ a = b) : (a != b) = true := by simp [h]
end Ru

def IntsAt (w : World) (l : List Int) (v3 v8 : Value) (wr : World) : Prop :=
  ∃ k : Nat, k ≤ l.length ∧ v8 = .int .i64 k ∧ wr.ownsRow w.heap.size 3 1 v3 (l.take k).length (nums .i64 (l.take k)) ∧ Below w.heap.size w wr

set_option maxHeartbeats 1000000 in
set_option maxRecDepth 100000 in
theorem ints_any (l : List Int) (A : Option Addr) (cap : Nat) (w : World) (hm : l.length ≤ 65536) (hcap : l.length ≤ cap) (hr : ∀ c ∈ l, -2147483648 ≤ c ∧ c ≤ 2147483647) (hA : Bs w w.heap.size .i32 A l) :
    Calls Tryd.prog 12 #[.slice A l.length cap] w (Made .i64 3 l w) := by
  obtain ⟨i0, hi, hz0, hz1, hz2⟩ := info_parts Tryd.info3
  have HA := Lib.hid hA
  have HR := Lib.hid hr
  clear hA hr
  by_cases h0 : 0 < l.length
  · obtain ⟨b, off, rfl, hb, hp⟩ := HA.out h0
    have HP := Lib.hid hp
    clear hp
    go_enter Tryd.func12, Tryd.ntmps12
    go_wp2_with fail
    go_loopw [3, 8] (fun v3 v8 wr => IntsAt w l v3 v8 wr) (fun _ v8 _ => l.length - (RowKit.intOf v8).toNat)
    case atStart => exact ⟨0, Nat.zero_le _, rfl, World.ownsRow_nil _ _ _ _, Below.refl _ _⟩
    case round =>
      obtain ⟨k, hk, rfl, hown, hbel⟩ := hrel
      have HO := Lib.hid hown
      have HB := Lib.hid hbel
      clear hown hbel
      by_cases hlt : k < l.length
      · have hlen : Hid ((l.take k).length = k) := Lib.hid (by rw [List.length_take]; omega)
        have hcell := (HB.out.cell (p := ⟨b, off + k, none⟩) hb).trans (HP.out k hlt)
        obtain ⟨r1, r2⟩ := HR.out _ (List.getElem_mem hlt)
        rw [← Ru.g_eq hlt] at r1 r2
        have HN := Lib.hid (Ru.take_g hlt)
        have hc3 : (l.take k).length + 1 ≤ maxLen := by rw [hlen.out]; unfold maxLen; omega
        have hc4 : ((l.take k).length + 1) * 8 ≤ 140737488355328 := by rw [hlen.out]; omega
        generalize Ru.g l k = x at *
        go_wp2_with (at_builtin; refine wpList_append_own _ rfl _ _ 25 rfl w.heap.size 3 i0 (.int .i64 0) 1 8 Tryd.underlying25 hi hz0 hz1 hz2 rfl (by decide) _ _ _ rfl (HO.out.alloc _) ⟨wr.heap.size, 0, none⟩ 1 1 [.int .i64 x] rfl rfl (one_cell _ _) (one_ok _) hc3 hc4 (alloc_size HB.out.size _) ?_; intro v' w3 hown3 hgrow _; have HO3 := Lib.hid (made_next HO.out HB.out (Below.refl _ _) hown3 hgrow); clear hown3 hgrow)
        go_roundw
        case rel => exact ⟨k + 1, by omega, by go_num, by rw [HN.out]; exact HO3.out.1, HO3.out.2⟩
        case measure => simp [RowKit.intOf]; omega
      · obtain rfl : k = l.length := by omega
        have hd : Hid (l.take l.length = l) := Lib.hid (List.take_length)
        clear HP
        go_wp2_with fail
        go_ret
        exact ⟨_, rfl, by have := HO.out; rw [hd.out] at this; exact this, HB.out⟩
  · have hl : l = [] := List.eq_nil_of_length_eq_zero (by omega)
    subst hl
    go_enter Tryd.func12, Tryd.ntmps12
    go_wp2_with fail
    go_loop [3, 8] (fun v3 v8 => v3 = .slice none 0 0 ∧ v8 = .int .i64 0) (fun _ _ => 0)
    case atStart => exact ⟨rfl, rfl⟩
    case round =>
      obtain ⟨rfl, rfl⟩ := hrel
      go_wp2_with fail
      go_ret
      exact ⟨_, rfl, World.ownsRow_nil _ _ _ _, Below.refl _ _⟩

def SameAt (w : World) (a b : List Int) (v13 : Value) (wr : World) : Prop :=
  ∃ k d : Nat, k ≤ a.length ∧ v13 = .int .i64 k ∧ wr = w.drewN d ∧ Hid (∀ j, j < k → Ru.g a j = Ru.g b j)

set_option maxHeartbeats 1000000 in
set_option maxRecDepth 100000 in
theorem same_any (a b : List Int) (A C : Option Addr) (ca cb : Nat) (w : World) (hm : a.length ≤ 65536) (hm' : b.length ≤ 65536) (hA : Bs w w.heap.size .i64 A a) (hB : Bs w w.heap.size .i64 C b) :
    Calls Tryd.prog 11 #[.slice A a.length ca, .slice C b.length cb] w fun e w' => e = .returned (.bool (decide (a = b))) ∧ Below w.heap.size w w' := by
  by_cases hlen : a.length = b.length
  · have hne : ((a.length : Int) != (b.length : Int)) = false := Ru.ne_f (by omega)
    by_cases h0 : 0 < a.length
    · obtain ⟨x, off, rfl, hx, hp⟩ := hA h0
      obtain ⟨y, of2, rfl, hy, hq⟩ := hB (by omega)
      have HP := Lib.hid hp
      have HQ := Lib.hid hq
      have HL := Lib.hid hlen
      have hl1 : a.length ≤ b.length := by omega
      have hl2 : b.length ≤ a.length := by omega
      clear hA hB hp hq hlen
      go_enter Tryd.func11, Tryd.ntmps11
      go_wp2_with fail
      go_loopw [13] (fun v13 wr => SameAt w a b v13 wr) (fun v13 _ => a.length - (RowKit.intOf v13).toNat)
      case atStart => exact ⟨0, 0, Nat.zero_le _, rfl, rfl, Lib.hid (fun j hj => by omega)⟩
      case round =>
        obtain ⟨k, d, hk, rfl, rfl, HE⟩ := hrel
        by_cases hlt : k < a.length
        · have c1 := HP.out k hlt
          have c2 := HQ.out k (by omega)
          have hltb : k < b.length := by omega
          by_cases he : Ru.g a k = Ru.g b k
          · have HE' : Hid (∀ j, j < k + 1 → Ru.g a j = Ru.g b j) := Lib.hid fun j hj => by
              by_cases e : j = k
              · subst e; exact he
              · exact HE.out j (by omega)
            have e1 := Ru.ne_f he
            clear he
            generalize Ru.g a k = p at *
            generalize Ru.g b k = q at *
            go_wp2_with fail
            go_quiet (fail)
            go_wp2_with fail
            exact ⟨⟨k + 1, d + nq, by omega, by go_num, rfl, HE'⟩, by simp [RowKit.intOf]; omega⟩
          · have hd : Hid (decide (a = b) = false) := Lib.hid (decide_eq_false fun h => he (by rw [h]))
            have e1 := Ru.ne_t he
            clear he HE HP HQ
            generalize Ru.g a k = p at *
            generalize Ru.g b k = q at *
            go_wp2_with fail
            go_quiet (fail)
            go_wp2_with fail
            go_ret
            exact ⟨ret_bool hd.out.symm, below_drewN (below_drewN (Below.refl _ _) _) _⟩
        · have hd : Hid (decide (a = b) = true) := Lib.hid (decide_eq_true (Ru.eq_of_g HL.out fun j hj => HE.out j (by omega)))
          clear HE HP HQ
          go_wp2_with fail
          go_ret
          exact ⟨ret_bool hd.out.symm, below_drewN (Below.refl _ _) _⟩
    · have ha : a = [] := List.eq_nil_of_length_eq_zero (by omega)
      have hb : b = [] := List.eq_nil_of_length_eq_zero (by omega)
      subst ha
      subst hb
      clear hA hB
      go_enter Tryd.func11, Tryd.ntmps11
      go_wp2_with fail
      go_loop [13] (fun v13 => v13 = .int .i64 0) (fun _ => 0)
      case atStart => rfl
      case round =>
        subst hrel
        go_wp2_with fail
        go_ret
        exact ⟨rfl, Below.refl _ _⟩
  · have hne : ((a.length : Int) != (b.length : Int)) = true := Ru.ne_t (by omega)
    have hd : Hid (decide (a = b) = false) := Lib.hid (decide_eq_false fun h => hlen (by rw [h]))
    rw [hd.out]
    clear hA hB hlen
    go_enter Tryd.func11, Tryd.ntmps11
    go_wp2_with fail
    go_ret
    exact ⟨rfl, Below.refl _ _⟩
end Go.Proofs.YtakafhjnkcilkaaDoor
