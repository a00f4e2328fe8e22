/-
  The walk of the law TokenParts.
-/
import Derived.Test.YtppgklmliklkkaaDoorGp2
namespace Go.Proofs.YtppgklmliklkkaaDoor
open Go.RowKit

theorem alloc_below (w : World) (o : Obj) : Below w.heap.size w (w.alloc o) := (Below.refl _ _).alloc (Nat.le_refl _) _
theorem made_below {w w1 : World} {o : Obj} {c : Nat} (h : (w.alloc o).grownBy w1 (Value.slice (some ⟨w.heap.size, 0, none⟩) 0 c).ownBlock) : Below w.heap.size w w1 :=
  (alloc_below w o).grown h (by simp) (fun k hk => by simp [Value.ownBlock] at hk; omega)
theorem one_rd (w : World) : Rdc (w.alloc (.cells #[.int .u8 32] 5)) (some ⟨w.heap.size, 0, none⟩) 1 1 [.int .u8 32] :=
  ⟨rfl, fun _ => ⟨w.heap.size, 0, rfl, fun j u hj => by
    match j, hj with
    | 0, hj => simp only [List.getElem?_cons_zero, Option.some.injEq] at hj; subst hj; simp [go_sem]⟩⟩
theorem join_made {w w4 w5 : World} {la lb ab : List Int} {v4 v5 : Value} (hab : la ++ 32 :: lb = ab) (hown4 : w4.ownsRow w.heap.size 5 1 v4 (0 + la.length + 1) ([] ++ nums .u8 la ++ [.int .u8 32])) (hb4 : Below w.heap.size w w4)
    (hown5 : w5.ownsRow w.heap.size 5 1 v5 (0 + la.length + 1 + lb.length) ([] ++ nums .u8 la ++ [.int .u8 32] ++ nums .u8 lb)) (hg : w4.grownBy w5 v4.ownBlock) :
    ∃ A cap, v5 = .slice A ab.length cap ∧ ab.length ≤ cap ∧ Bs w5 w5.heap.size .u8 A ab ∧ Below w.heap.size w w5 := by
  have h : w5.ownsRow w.heap.size 5 1 v5 ab.length (nums .u8 ab) := by
    have e1 : nums .u8 ab = [] ++ nums .u8 la ++ [.int .u8 32] ++ nums .u8 lb := by rw [← hab]; unfold nums; simp
    have e2 : ab.length = 0 + la.length + 1 + lb.length := by rw [← hab]; simp; omega
    rw [e1, e2]; exact hown5
  obtain ⟨A, cap, e, hc, hB⟩ := own_form h
  exact ⟨A, cap, e, hc, hB, hb4.grown hg hb4.size (fun k hk => (hown4.lt k hk).1)⟩
theorem own_zero {w : World} {B : Nat} {E : TypeId} {v : Value} {ts : List Tk.Tok} (h : w.ownsRow B E 3 v (0 + ts.length) ([] ++ Tk.cells ts)) : w.ownsRow B E 3 v ts.length (Tk.cells ts) := by
  rw [Nat.zero_add, List.nil_append] at h; exact h
theorem own_join {w : World} {B : Nat} {E : TypeId} {v : Value} {xs ys zs : List Tk.Tok} (hz : xs ++ ys = zs) (h : w.ownsRow B E 3 v (xs.length + ys.length) (Tk.cells xs ++ Tk.cells ys)) : w.ownsRow B E 3 v zs.length (Tk.cells zs) := by
  rw [← hz, Tk.cells_app, List.length_append]; exact h
theorem hk_first {ys : List Tk.Tok} (h : 0 < ys.length) : (Tk.tk ys 0).1 = Tk.hk ys := by
  cases ys with
  | nil => simp at h
  | cons t r => rfl
theorem ts_tail {w : World} {B b off : Nat} {ys : List Tk.Tok} (hb : b < B) (hp : ∀ j, j < ys.length → w.cell? ⟨b, off + j * 3, none⟩ = some (.int .i64 (Tk.tk ys j).1) ∧ w.cell? ⟨b, off + j * 3 + 1, none⟩ = some (.string (Tk.tk ys j).2.1) ∧ w.cell? ⟨b, off + j * 3 + 2, none⟩ = some (.int .i64 (Tk.tk ys j).2.2)) :
    Ts w B (some ⟨b, off + 3, none⟩) ys.tail := fun h0 => by
  refine ⟨b, off + 3, rfl, hb, fun j hj => ?_⟩
  rw [List.length_tail] at hj
  have h := hp (j + 1) (by omega)
  have e : Tk.tk ys.tail j = Tk.tk ys (j + 1) := by
    cases ys with
    | nil => simp at hj
    | cons t r => rfl
  rw [e, show off + 3 + j * 3 = off + (j + 1) * 3 by omega]
  exact h


set_option maxHeartbeats 16000000 in
set_option maxRecDepth 100000 in
theorem tokenParts_walk (la lb : List Int) (hla : Ru.By la) (hlb : Ru.By lb) (A B : Option Addr) (ca cb : Nat) (w : World) (hma : la.length ≤ ca) (hmb : lb.length ≤ cb) (hT : UTab w.heap.size w) (hA : Bs w w.heap.size .u8 A la) (hB : Bs w w.heap.size .u8 B lb) :
    Calls Tryd.prog 4 #[.slice A la.length ca, .slice B lb.length cb] w (Yes w) := by
  have CA : Hid (∀ w1, Below w.heap.size w w1 → Calls Tryd.prog 8 #[] w1 (Yes w1)) := Lib.hid fun w1 h => awake_any w1 (hT.next h)
  by_cases g1 : la.length ≤ 1000
  · by_cases g2 : lb.length ≤ 1000
    · have HT := Lib.hid hT
      have HA := Lib.hid hA
      have HB := Lib.hid hB
      have HLA := Lib.hid hla
      have HLB := Lib.hid hlb
      clear hT hA hB hla hlb
      go_enter Tryd.func4, Tryd.ntmps4
      go_wp2_with fail
      go_loop [28] (fun v => ∃ k : Nat, k ≤ 2 ∧ v = .int .i64 k ∧ Hid ((1 ≤ k → ∀ c ∈ la, Ru.PtB c) ∧ (2 ≤ k → ∀ c ∈ lb, Ru.PtB c))) (fun v => 2 - (RowKit.intOf v).toNat)
      case atStart => exact ⟨0, by omega, rfl, Lib.hid ⟨fun h => by omega, fun h => by omega⟩⟩
      case round =>
        obtain ⟨k, hk, rfl, HK⟩ := hrel
        rcases (show k = 0 ∨ k = 1 ∨ k = 2 by omega) with rfl | rfl | rfl
        · clear HK
          have hx : ∀ W, (Instr.index 31 (.agg #[.slice A la.length ca, .slice B lb.length cb]) (.int .i64 0)).run Tryd.prog W = .ok (.slice A la.length ca) W := fun _ => by kernel_rfl
          go_wp2_with fail
          go_loop [33] (fun v => ∃ j : Nat, j ≤ la.length ∧ v = .int .i64 j ∧ Hid (∀ i, i < j → Ru.PtB (Ru.g la i))) (fun v => la.length - (RowKit.intOf v).toNat)
          case atStart => exact ⟨0, Nat.zero_le _, rfl, Lib.hid (fun i hi => by omega)⟩
          case round =>
            obtain ⟨j, hj, rfl, HJ⟩ := hrel
            by_cases hjl : j < la.length
            · obtain ⟨b, off, rfl, _, hp⟩ := HA.out (by omega)
              have hcell := hp j hjl
              have hby := HLA.out.at_ j
              obtain ⟨y0, y1⟩ := hby
              have HP : Hid (∀ c, c = Ru.g la j → Ru.PtB c → ∀ i, i < j + 1 → Ru.PtB (Ru.g la i)) := Lib.hid fun c hc hpt i hi => by
                by_cases q : i < j
                · exact HJ.out i q
                · have : i = j := by omega
                  subst this; rw [← hc]; exact hpt
              clear hp HJ
              generalize Ru.g la j = c at *
              by_cases hbad : c = 34 ∨ c = 39 ∨ c = 92 ∨ c = 47 ∨ c = 13 ∨ 128 ≤ c
              · clear HP
                by_cases q1 : c = 34
                · subst q1
                  go_wp2_with (go_at_call 8; ((with_reducible refine (CA.out _ (Below.refl _ _)).mono ?_); rintro e w4 ⟨rfl, b4⟩))
                  go_ret
                  exact ⟨rfl, b4⟩
                · have n1 := Ru.eq_f q1
                  by_cases q2 : c = 39
                  · subst q2
                    go_wp2_with (go_at_call 8; ((with_reducible refine (CA.out _ (Below.refl _ _)).mono ?_); rintro e w4 ⟨rfl, b4⟩))
                    go_ret
                    exact ⟨rfl, b4⟩
                  · have n2 := Ru.eq_f q2
                    by_cases q3 : c = 92
                    · subst q3
                      go_wp2_with (go_at_call 8; ((with_reducible refine (CA.out _ (Below.refl _ _)).mono ?_); rintro e w4 ⟨rfl, b4⟩))
                      go_ret
                      exact ⟨rfl, b4⟩
                    · have n3 := Ru.eq_f q3
                      by_cases q4 : c = 47
                      · subst q4
                        go_wp2_with (go_at_call 8; ((with_reducible refine (CA.out _ (Below.refl _ _)).mono ?_); rintro e w4 ⟨rfl, b4⟩))
                        go_ret
                        exact ⟨rfl, b4⟩
                      · have n4 := Ru.eq_f q4
                        by_cases q5 : c = 13
                        · subst q5
                          go_wp2_with (go_at_call 8; ((with_reducible refine (CA.out _ (Below.refl _ _)).mono ?_); rintro e w4 ⟨rfl, b4⟩))
                          go_ret
                          exact ⟨rfl, b4⟩
                        · have n5 := Ru.eq_f q5
                          have q6 : 128 ≤ c := by omega
                          clear hbad q1 q2 q3 q4 q5
                          go_wp2_with (go_at_call 8; ((with_reducible refine (CA.out _ (Below.refl _ _)).mono ?_); rintro e w4 ⟨rfl, b4⟩))
                          go_ret
                          exact ⟨rfl, b4⟩
              · have hpt : Ru.PtB c := by unfold Ru.PtB; omega
                have HJ2 := Lib.hid (HP.out c rfl hpt)
                have n1 := Ru.eq_f (show ¬ c = 34 by omega)
                have n2 := Ru.eq_f (show ¬ c = 39 by omega)
                have n3 := Ru.eq_f (show ¬ c = 92 by omega)
                have n4 := Ru.eq_f (show ¬ c = 47 by omega)
                have n5 := Ru.eq_f (show ¬ c = 13 by omega)
                have n6 : c < 128 := by omega
                clear HP hbad hpt
                go_wp2_with fail
                go_round
                case rel => exact ⟨j + 1, by omega, by go_num, HJ2⟩
                case measure => simp [RowKit.intOf]; omega
            · have hall : ∀ c ∈ la, Ru.PtB c := fun x hx => by
                obtain ⟨i, hi, rfl⟩ := List.mem_iff_getElem.1 hx
                rw [← Ru.g_eq hi]; exact HJ.out i (by omega)
              have HALL := Lib.hid hall
              clear hall HJ
              go_wp2_with fail
              go_round
              case rel => exact ⟨1, by omega, rfl, Lib.hid ⟨fun _ => HALL.out, fun h => by omega⟩⟩
              case measure => simp [RowKit.intOf]
        · have HK1 := Lib.hid (HK.out.1 (Nat.le_refl _))
          clear HK
          have hx : ∀ W, (Instr.index 31 (.agg #[.slice A la.length ca, .slice B lb.length cb]) (.int .i64 1)).run Tryd.prog W = .ok (.slice B lb.length cb) W := fun _ => by kernel_rfl
          go_wp2_with fail
          go_loop [33] (fun v => ∃ j : Nat, j ≤ lb.length ∧ v = .int .i64 j ∧ Hid (∀ i, i < j → Ru.PtB (Ru.g lb i))) (fun v => lb.length - (RowKit.intOf v).toNat)
          case atStart => exact ⟨0, Nat.zero_le _, rfl, Lib.hid (fun i hi => by omega)⟩
          case round =>
            obtain ⟨j, hj, rfl, HJ⟩ := hrel
            by_cases hjl : j < lb.length
            · obtain ⟨b, off, rfl, _, hp⟩ := HB.out (by omega)
              have hcell := hp j hjl
              have hby := HLB.out.at_ j
              obtain ⟨y0, y1⟩ := hby
              have HP : Hid (∀ c, c = Ru.g lb j → Ru.PtB c → ∀ i, i < j + 1 → Ru.PtB (Ru.g lb i)) := Lib.hid fun c hc hpt i hi => by
                by_cases q : i < j
                · exact HJ.out i q
                · have : i = j := by omega
                  subst this; rw [← hc]; exact hpt
              clear hp HJ
              generalize Ru.g lb j = c at *
              by_cases hbad : c = 34 ∨ c = 39 ∨ c = 92 ∨ c = 47 ∨ c = 13 ∨ 128 ≤ c
              · clear HP
                by_cases q1 : c = 34
                · subst q1
                  go_wp2_with (go_at_call 8; ((with_reducible refine (CA.out _ (Below.refl _ _)).mono ?_); rintro e w4 ⟨rfl, b4⟩))
                  go_ret
                  exact ⟨rfl, b4⟩
                · have n1 := Ru.eq_f q1
                  by_cases q2 : c = 39
                  · subst q2
                    go_wp2_with (go_at_call 8; ((with_reducible refine (CA.out _ (Below.refl _ _)).mono ?_); rintro e w4 ⟨rfl, b4⟩))
                    go_ret
                    exact ⟨rfl, b4⟩
                  · have n2 := Ru.eq_f q2
                    by_cases q3 : c = 92
                    · subst q3
                      go_wp2_with (go_at_call 8; ((with_reducible refine (CA.out _ (Below.refl _ _)).mono ?_); rintro e w4 ⟨rfl, b4⟩))
                      go_ret
                      exact ⟨rfl, b4⟩
                    · have n3 := Ru.eq_f q3
                      by_cases q4 : c = 47
                      · subst q4
                        go_wp2_with (go_at_call 8; ((with_reducible refine (CA.out _ (Below.refl _ _)).mono ?_); rintro e w4 ⟨rfl, b4⟩))
                        go_ret
                        exact ⟨rfl, b4⟩
                      · have n4 := Ru.eq_f q4
                        by_cases q5 : c = 13
                        · subst q5
                          go_wp2_with (go_at_call 8; ((with_reducible refine (CA.out _ (Below.refl _ _)).mono ?_); rintro e w4 ⟨rfl, b4⟩))
                          go_ret
                          exact ⟨rfl, b4⟩
                        · have n5 := Ru.eq_f q5
                          have q6 : 128 ≤ c := by omega
                          clear hbad q1 q2 q3 q4 q5
                          go_wp2_with (go_at_call 8; ((with_reducible refine (CA.out _ (Below.refl _ _)).mono ?_); rintro e w4 ⟨rfl, b4⟩))
                          go_ret
                          exact ⟨rfl, b4⟩
              · have hpt : Ru.PtB c := by unfold Ru.PtB; omega
                have HJ2 := Lib.hid (HP.out c rfl hpt)
                have n1 := Ru.eq_f (show ¬ c = 34 by omega)
                have n2 := Ru.eq_f (show ¬ c = 39 by omega)
                have n3 := Ru.eq_f (show ¬ c = 92 by omega)
                have n4 := Ru.eq_f (show ¬ c = 47 by omega)
                have n5 := Ru.eq_f (show ¬ c = 13 by omega)
                have n6 : c < 128 := by omega
                clear HP hbad hpt
                go_wp2_with fail
                go_round
                case rel => exact ⟨j + 1, by omega, by go_num, HJ2⟩
                case measure => simp [RowKit.intOf]; omega
            · have hall : ∀ c ∈ lb, Ru.PtB c := fun x hx => by
                obtain ⟨i, hi, rfl⟩ := List.mem_iff_getElem.1 hx
                rw [← Ru.g_eq hi]; exact HJ.out i (by omega)
              have HALL := Lib.hid hall
              clear hall HJ
              go_wp2_with fail
              go_round
              case rel => exact ⟨2, by omega, rfl, Lib.hid ⟨fun _ => HK1.out, fun _ => HALL.out⟩⟩
              case measure => simp [RowKit.intOf]
        · have HPA := Lib.hid (HK.out.1 (by omega))
          have HPB := Lib.hid (HK.out.2 (by omega))
          clear HK
          obtain ⟨i5, hi5, hz50, hz51, hz52⟩ := info_parts Tryd.info8
          obtain ⟨iT, hiT, hzT0, hzT1, hzT2⟩ := info_parts Tryd.infoTok
          have hsx := (Tk.scan_good (Ru.rd la) _ 0 (Nat.le_refl _) (Nat.zero_le _)).2.2.2.2
          have hsy := (Tk.scan_good (Ru.rd lb) _ 0 (Nat.le_refl _) (Nat.zero_le _)).2.2.2.2
          have hrx := Ru.rd_len' la
          have hry := Ru.rd_len' lb
          have hxl : (Tk.scan (Ru.rd la) 0).length ≤ 1000 := by omega
          have hyl : (Tk.scan (Ru.rd lb) 0).length ≤ 1000 := by omega
          have C1 := Lib.hid (scan_told la HLA.out A ca w (by omega) hma HT.out HA.out)
          have C2 : Hid (∀ w1, Below w.heap.size w w1 → Calls Tryd.prog 9 #[.slice B lb.length cb] w1 (Told3 (Tk.scan (Ru.rd lb) 0) w1)) := Lib.hid fun w1 h => scan_told lb HLB.out B cb w1 (by omega) hmb (HT.out.next h) (HB.out.next h)
          have hby : Ru.By (la ++ 32 :: lb) := fun c hc => by
            rcases List.mem_append.1 hc with h | h
            · exact HLA.out c h
            · rcases List.mem_cons.1 h with rfl | h
              · omega
              · exact HLB.out c h
          have C3 : Hid (∀ (A5 : Option Addr) (c5 : Nat) (w1 : World), (la ++ 32 :: lb).length ≤ c5 → UTab w1.heap.size w1 → Bs w1 w1.heap.size .u8 A5 (la ++ 32 :: lb) → Calls Tryd.prog 9 #[.slice A5 (la ++ 32 :: lb).length c5] w1 (Told3 (Tk.endS (Tk.scan (Ru.rd la) 0) ++ (if Tk.hk (Tk.scan (Ru.rd lb) 0) = 1 then (Tk.scan (Ru.rd lb) 0).tail else Tk.scan (Ru.rd lb) 0)) w1)) := Lib.hid fun A5 c5 w1 h1 h2 h3 => by
            have h := scan_told (la ++ 32 :: lb) hby A5 c5 w1 (by simp; omega) h1 h2 h3
            rw [Ru.rd_parts' HPA.out, Tk.scan_parts (Tk.rst_rd HPA.out) (Tk.rst_rd HPB.out)] at h
            exact h
          clear hby hsx hsy hrx hry HPA HPB HLA HLB
          generalize Tk.scan (Ru.rd la) 0 = xs at *
          generalize Tk.scan (Ru.rd lb) 0 = ys at *
          obtain ⟨t2, ht2⟩ : ∃ t2, (if Tk.hk ys = 1 then ys.tail else ys) = t2 := ⟨_, rfl⟩
          rw [ht2] at C3
          have ht2l : t2.length ≤ 1000 := by
            rw [← ht2]
            split
            · rw [List.length_tail]; omega
            · omega
          have HT2 := Lib.hid ht2
          clear ht2
          have hel : (Tk.endS xs).length ≤ 1001 := by
            rw [Tk.endS_is]
            split
            · rw [List.length_append]; simp; omega
            · omega
          obtain ⟨zs, hzs⟩ : ∃ zs, Tk.endS xs ++ t2 = zs := ⟨_, rfl⟩
          rw [hzs] at C3
          have hzl : zs.length ≤ 65536 := by rw [← hzs, List.length_append]; omega
          have HZS := Lib.hid hzs
          clear hzs
          obtain ⟨ab, hab⟩ : ∃ ab, la ++ 32 :: lb = ab := ⟨_, rfl⟩
          rw [hab] at C3
          have HAB := Lib.hid hab
          clear hab
          have hq1 : 0 + la.length ≤ maxLen := by unfold maxLen; omega
          have hq2 : (0 + la.length) * 1 ≤ 140737488355328 := by omega
          have hq3 : 0 + la.length + 1 ≤ maxLen := by unfold maxLen; omega
          have hq4 : (0 + la.length + 1) * 1 ≤ 140737488355328 := by omega
          have hq5 : 0 + la.length + 1 + lb.length ≤ maxLen := by unfold maxLen; omega
          have hq6 : (0 + la.length + 1 + lb.length) * 1 ≤ 140737488355328 := by omega
          have hr1 : 0 + xs.length ≤ maxLen := by unfold maxLen; omega
          have hr2 : (0 + xs.length) * 32 ≤ 140737488355328 := by omega
          go_upto_region 19 with (first
            | (go_at_call 9; (first
              | ((with_reducible refine (C1.out).mono ?_); rintro e w1 ⟨A1, c1, rfl, k1, B1, b1⟩; have HB1 := Lib.hid B1; clear B1)
              | ((with_reducible refine (C2.out _ b1).mono ?_); rintro e w2 ⟨A2, c2, rfl, k2, B2, b2⟩; have HB2 := Lib.hid B2; clear B2)
              | ((with_reducible refine (C3.out _ _ _ k5 ((HT.out.next (below_next b1 b2)).next b5) B5).mono ?_); rintro e w6 ⟨A6, c6, rfl, k6, B6, b6⟩; have HB6 := Lib.hid B6; clear B6 B5)))
            | (at_builtin; refine wpList_append_rd _ rfl (.tmp 73) (.tmp 74) 22 rfl w2.heap.size 5 i5 (.int .u8 0) 1 1 Tryd.underlying22 hi5 hz50 hz51 hz52 rfl (by decide) _ 0 [] rfl (World.ownsRow_made w2 #[] 0 (Nat.le_refl _) (by decide) rfl) A la.length (nums .u8 la) ca rfl (Rdc.of_bs (((HA.out.next b1).next b2).below (alloc_below w2 _))) (nums_one _ _) hq1 hq2 (alloc_size (Nat.le_refl _) _) ?_; intro v3 w3 hown3 hg3; have HO3 := Lib.hid (And.intro hown3 (made_below hg3)); clear hown3 hg3)
            | (at_builtin; refine wpList_append_rd _ rfl (.tmp 75) (.tmp 76) 22 rfl w2.heap.size 5 i5 (.int .u8 0) 1 1 Tryd.underlying22 hi5 hz50 hz51 hz52 rfl (by decide) v3 (0 + la.length) ([] ++ nums .u8 la) rfl (HO3.out.1.alloc _) (some ⟨w3.heap.size, 0, none⟩) 1 [.int .u8 32] 1 rfl (one_rd w3) (one_ok _) hq3 hq4 (alloc_size HO3.out.2.size _) ?_; intro v4 w4 hown4 hg4; have HO4 := Lib.hid (And.intro hown4 ((HO3.out.2.alloc HO3.out.2.size _).grown hg4 (alloc_size HO3.out.2.size _) (fun k hk => (HO3.out.1.lt k hk).1))); clear hown4 hg4 HO3)
            | (at_builtin; refine wpList_append_rd _ rfl (.tmp 77) (.tmp 78) 22 rfl w2.heap.size 5 i5 (.int .u8 0) 1 1 Tryd.underlying22 hi5 hz50 hz51 hz52 rfl (by decide) v4 (0 + la.length + 1) ([] ++ nums .u8 la ++ [.int .u8 32]) rfl HO4.out.1 B lb.length (nums .u8 lb) cb rfl (Rdc.of_bs (((HB.out.next b1).next b2).below HO4.out.2)) (nums_one _ _) hq5 hq6 HO4.out.2.size ?_; intro v5 w5 hown5 hg5; obtain ⟨A5, c5, rfl, k5, B5, b5⟩ := join_made HAB.out HO4.out.1 HO4.out.2 hown5 hg5; clear hown5 hg5 HO4)
            | (at_builtin; refine wpList_append_rd _ rfl (.tmp 93) (.tmp 94) 24 rfl w6.heap.size 29 iT zTok 3 32 Tryd.underlying24 hiT hzT0 hzT1 hzT2 rfl (by decide) _ 0 [] rfl (World.ownsRow_made w6 #[] 0 (Nat.le_refl _) (by decide) rfl) A1 xs.length (Tk.cells xs) c1 rfl (Rdc.of_ts (((HB1.out.next b2).next b5).next b6 |>.below (alloc_below w6 _))) (cells_ok _) hr1 hr2 (alloc_size (Nat.le_refl _) _) ?_; intro v7 w7 hown7 hg7; have HO7 := Lib.hid (And.intro (own_zero hown7) (made_below hg7)); clear hown7 hg7; obtain ⟨A7, c7, hv7, hc7⟩ := row_slice HO7.out.1; subst hv7))
          have HB7 : Hid (Below w6.heap.size w6 w7) := Lib.hid HO7.out.2
          have HW7 : Hid (w7.ownsRow w6.heap.size 29 3 (.slice A7 xs.length c7) xs.length (Tk.cells xs)) := Lib.hid HO7.out.1
          have b26 : Below w.heap.size w w6 := below_next (below_next (below_next b1 b2) b5) b6
          have HW6 := Lib.hid b26
          have HY6 : Hid (Ts w6 w6.heap.size A2 ys) := Lib.hid ((HB2.out.next b5).next b6)
          clear HO7 b1 b2 b5 b6 b26 HB1 HB2 C1 C2 C3
          go_cut [108] (fun s108 wc => s108 = .bool (decide (xs = [] ∨ Tk.lastK xs ≠ 1)) ∧ w7 = wc)
          case first =>
            clear HY6 HB6
            by_cases h0 : xs.length = 0
            · have e0 : ((xs.length : Int) == 0) = true := Ru.eq_t (by omega)
              have hd : decide (xs = [] ∨ Tk.lastK xs ≠ 1) = true := decide_eq_true (.inl (List.eq_nil_of_length_eq_zero h0))
              have HD := Lib.hid hd
              clear h0 hd
              go_wp2_with fail
              go_meet
              exact ⟨by rw [HD.out], rfl⟩
            · have e0 : ((xs.length : Int) == 0) = false := Ru.eq_f (by omega)
              obtain ⟨b, off, rfl, _, hp⟩ := (Ts.of_own HW7.out) (by omega)
              have q0 : w7.cell? ⟨b, off + (xs.length - 1) * 3, none⟩ = some (.int .i64 (Tk.lastK xs)) := (hp (xs.length - 1) (by omega)).1
              have e1 : IntKind.i64.wrap ((xs.length : Int) - 1) = (xs.length : Int) - 1 := IntWalk.i64_in _ (by omega)
              have e2 : ((xs.length : Int) - 1).toNat = xs.length - 1 := by omega
              have e3 : (0 : Int) ≤ (xs.length : Int) - 1 := by omega
              have e4 : (xs.length : Int) - 1 < (xs.length : Int) := by omega
              have hne : xs ≠ [] := fun e => h0 (by rw [e]; rfl)
              have HD : Hid (decide (xs = [] ∨ Tk.lastK xs ≠ 1) = decide (Tk.lastK xs ≠ 1)) := Lib.hid (by
                by_cases c : Tk.lastK xs ≠ 1
                · rw [decide_eq_true c, decide_eq_true (Or.inr c)]
                · rw [decide_eq_false c, decide_eq_false (by rintro (e | e); exact hne e; exact c e)])
              clear hp hne h0
              generalize Tk.lastK xs = lk at *
              by_cases hl : lk = 1
              · subst hl
                go_wp2_with fail
                go_meet
                exact ⟨by rw [HD.out]; rfl, rfl⟩
              · have nl := Ru.ne_t hl
                have HN := Lib.hid hl
                clear hl
                go_wp2_with fail
                go_meet
                exact ⟨by rw [HD.out]; rw [decide_eq_true HN.out], rfl⟩
          case rest =>
            obtain ⟨rfl, rfl⟩ := hcut
            go_upto_if 108 with fail
            go_cut [15] (fun s15 wc => Hid (wc.ownsRow w6.heap.size 29 3 s15 (Tk.endS xs).length (Tk.cells (Tk.endS xs))) ∧ Hid (Below w6.heap.size w6 wc))
            case first =>
              clear HY6 HB6
              have HES := Lib.hid (Tk.endS_is xs)
              by_cases hc : xs = [] ∨ Tk.lastK xs ≠ 1
              · have hd : decide (xs = [] ∨ Tk.lastK xs ≠ 1) = true := decide_eq_true hc
                have HE : Hid (Tk.endS xs = xs ++ [(1, ⟨#[]⟩, 0)]) := Lib.hid (by rw [HES.out, if_pos hc])
                have hs1 : xs.length + 1 ≤ maxLen := by unfold maxLen; omega
                have hs2 : (xs.length + 1) * 32 ≤ 140737488355328 := by omega
                clear hc HES
                rw [hd]
                clear hd
                go_wp2_with (at_builtin; refine wpList_append_own _ rfl _ _ 24 rfl w6.heap.size 29 iT zTok 3 32 Tryd.underlying24 hiT hzT0 hzT1 hzT2 rfl (by decide) _ _ _ rfl (HW7.out.alloc _) ⟨w7.heap.size, 0, none⟩ 1 1 [.int .i64 1, .string ⟨#[]⟩, .int .i64 0] rfl rfl (three_cell _ _ rfl _ _ _) (three_ok _ _ _) hs1 hs2 (alloc_size HB7.out.size _) ?_; intro v8 w8 hown8 hg8 _; have HO8 := Lib.hid (cells_next (t := (1, ⟨#[]⟩, 0)) hown8); have HB8 := Lib.hid ((HB7.out.alloc HB7.out.size _).grown hg8 (alloc_size HB7.out.size _) (fun k hk => (HW7.out.lt k hk).1)); clear hown8 hg8)
                go_meet
                exact ⟨Lib.hid (by rw [HE.out]; exact HO8.out), HB8⟩
              · have hd : decide (xs = [] ∨ Tk.lastK xs ≠ 1) = false := decide_eq_false hc
                have HE : Hid (Tk.endS xs = xs) := Lib.hid (by rw [HES.out, if_neg hc])
                clear hc HES
                rw [hd]
                clear hd
                go_wp2_with fail
                go_meet
                exact ⟨Lib.hid (by rw [HE.out]; exact HW7.out), HB7⟩
            case rest =>
              obtain ⟨HO8, HB8⟩ := hcut
              clear HW7 HB7
              go_upto_region 21 with fail
              go_cut [122] (fun s122 wx => s122 = .bool (decide (Tk.hk ys = 1)) ∧ wc = wx)
              case first =>
                clear HB6 HO8
                have HYc : Hid (Ts wc wc.heap.size A2 ys) := Lib.hid (HY6.out.next HB8.out)
                by_cases h0 : 0 < ys.length
                · obtain ⟨b, off, rfl, _, hp⟩ := HYc.out h0
                  have q0 : wc.cell? ⟨b, off, none⟩ = some (.int .i64 (Tk.hk ys)) := by
                    have := (hp 0 h0).1
                    rw [hk_first h0] at this
                    exact this
                  clear hp
                  generalize Tk.hk ys = hy at *
                  by_cases hl : hy = 1
                  · subst hl
                    go_wp2_with fail
                    go_meet
                    exact ⟨rfl, rfl⟩
                  · have nl := Ru.eq_f hl
                    have HN := Lib.hid hl
                    clear hl
                    go_wp2_with fail
                    go_meet
                    exact ⟨by rw [decide_eq_false HN.out], rfl⟩
                · have HN : Hid (decide (Tk.hk ys = 1) = false) := Lib.hid (by rw [List.eq_nil_of_length_eq_zero (show ys.length = 0 by omega)]; rfl)
                  have h1 : ys.length = 0 := by omega
                  go_wp2_with fail
                  go_meet
                  exact ⟨by rw [HN.out], rfl⟩
              case rest =>
                obtain ⟨rfl, rfl⟩ := hcut
                have HYc : Hid (Ts wc wc.heap.size A2 ys) := Lib.hid (HY6.out.next HB8.out)
                go_upto_if 122 with fail
                go_cut [11] (fun s11 wx => (∃ (A9 : Option Addr) (c9 : Nat), s11 = .slice A9 t2.length c9 ∧ Hid (Ts wc wc.heap.size A9 t2)) ∧ wc = wx)
                case first =>
                  clear HB6 HO8
                  by_cases hl : Tk.hk ys = 1
                  · have hd : decide (Tk.hk ys = 1) = true := decide_eq_true hl
                    have h0 : 0 < ys.length := by
                      cases ys with
                      | nil => exact absurd hl (by decide)
                      | cons t r => simp
                    have HT3 : Hid (t2 = ys.tail) := Lib.hid (by rw [← HT2.out, if_pos hl])
                    obtain ⟨b, off, rfl, hbb, hp⟩ := HYc.out h0
                    have HTT := Lib.hid (ts_tail hbb hp)
                    have hlen : t2.length = ys.length - 1 := by rw [HT3.out, List.length_tail]
                    clear hp hl
                    rw [hd]
                    clear hd
                    by_cases hcap : c2 = 1
                    · have hy1 : ys.length = 1 := by omega
                      have HNIL : Hid (t2 = []) := Lib.hid (List.eq_nil_of_length_eq_zero (by omega))
                      subst hcap
                      go_wp2_with fail
                      go_meet
                      exact ⟨⟨some ⟨b, off, none⟩, 0, by rw [show t2.length = 0 by omega], Lib.hid (fun hh => by rw [HNIL.out] at hh; simp at hh)⟩, rfl⟩
                    · have hcn : ¬ c2 = 1 := hcap
                      go_wp2_with fail
                      go_meet
                      exact ⟨⟨_, _, by first | rfl | (rw [hlen]), Lib.hid (by rw [HT3.out]; exact HTT.out)⟩, rfl⟩
                  · have hd : decide (Tk.hk ys = 1) = false := decide_eq_false hl
                    have HT3 : Hid (t2 = ys) := Lib.hid (by rw [← HT2.out, if_neg hl])
                    clear hl
                    rw [hd]
                    clear hd
                    go_wp2_with fail
                    go_meet
                    exact ⟨⟨A2, c2, by rw [HT3.out], Lib.hid (by rw [HT3.out]; exact HYc.out)⟩, rfl⟩
                case rest =>
                  obtain ⟨⟨A9, c9, rfl, HT9⟩, rfl⟩ := hcut
                  have hv1 : (Tk.endS xs).length + t2.length ≤ maxLen := by unfold maxLen; omega
                  have hv2 : ((Tk.endS xs).length + t2.length) * 32 ≤ 140737488355328 := by omega
                  have CS : Hid (∀ (A C : Option Addr) (ca cb : Nat) (w1 : World), Ts w1 w1.heap.size A zs → Ts w1 w1.heap.size C zs → Calls Tryd.prog 10 #[.slice A zs.length ca, .slice C zs.length cb] w1 (Yes w1)) := Lib.hid fun A C ca cb w1 h1 h2 => same_any zs A C ca cb w1 hzl h1 h2
                  clear HYc HY6
                  go_wp2_with (first
                    | (at_builtin; refine wpList_append_rd _ rfl (.tmp 126) (.tmp 127) 24 rfl w6.heap.size 29 iT zTok 3 32 Tryd.underlying24 hiT hzT0 hzT1 hzT2 rfl (by decide) _ (Tk.endS xs).length (Tk.cells (Tk.endS xs)) rfl HO8.out A9 t2.length (Tk.cells t2) c9 rfl (Rdc.of_ts HT9.out) (cells_ok _) hv1 hv2 HB8.out.size ?_; intro v9 w9 hown9 hg9; have hb9 := HB8.out.grown hg9 HB8.out.size (fun k hk => (HO8.out.lt k hk).1); have hown9' := own_join HZS.out hown9; obtain ⟨A10, c10, hv9, _⟩ := row_slice hown9'; subst hv9; have HT10 := Lib.hid (Ts.of_own hown9'); have HB10 := Lib.hid hb9; clear hown9 hown9' hg9 hb9)
                    | (go_at_call 10; ((with_reducible refine (CS.out _ _ _ _ _ (HB6.out.next HB10.out) HT10.out).mono ?_); rintro e w10 ⟨rfl, b10⟩))
                    | (go_at_call 8; ((with_reducible refine (CA.out _ (below_next (below_next HW6.out HB10.out) b10)).mono ?_); rintro e w11 ⟨rfl, b11⟩)))
                  go_ret
                  exact ⟨rfl, below_next (below_next (below_next HW6.out HB10.out) b10) b11⟩
    · have g3 : 1000 < lb.length := by omega
      clear hT hA hB hla hlb
      go_enter Tryd.func4, Tryd.ntmps4
      go_wp2_with (go_at_call 8; ((with_reducible refine (CA.out _ (Below.refl _ _)).mono ?_); rintro e w4 ⟨rfl, b4⟩))
      go_ret
      exact ⟨rfl, b4⟩
  · have g3 : 1000 < la.length := by omega
    clear hT hA hB hla hlb
    go_enter Tryd.func4, Tryd.ntmps4
    go_wp2_with (go_at_call 8; ((with_reducible refine (CA.out _ (Below.refl _ _)).mono ?_); rintro e w4 ⟨rfl, b4⟩))
    go_ret
    exact ⟨rfl, b4⟩
end Go.Proofs.YtppgklmliklkkaaDoor
