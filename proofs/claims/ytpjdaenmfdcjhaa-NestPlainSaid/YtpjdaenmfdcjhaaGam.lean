/-
  Plain words: tokens without brackets; parts, joined, are all of them. No run of the program in this text.
-/
import Derived.Test.YtpjdaenmfdcjhaaGac
import Derived.Test.YtpjdaenmfdcjhaaGae
import Derived.LoopTactic
import Derived.IntWalk
import Derived.Laws.NewBlocks
import Derived.Deep.MidRow
namespace Go.Proofs.Ytpjdaenmfdcjhaa
namespace Ns
open Tk

theorem plain_opn {ts : List Tok} (h : ∀ j, j < ts.length → ¬ isO (tk ts j)) : ∀ k, k ≤ ts.length → opn ts k = []
  | 0, _ => rfl
  | k + 1, hk => by
    have ih := plain_opn h k (by omega)
    rw [opn_keep (h k (by omega)) (fun c => c.2.1 ih), ih]
theorem plain_ends {ts : List Tok} (h : ∀ j, j < ts.length → ¬ isO (tk ts j)) {k : Nat} (hk : k < ts.length) : Ru.g (ends ts) k = -1 := ends_none hk (h k hk)
theorem plain_deep {ts : List Tok} (h : ∀ j, j < ts.length → ¬ isO (tk ts j)) : ¬ deep ts := by
  rintro ⟨k, hk, h2⟩
  rw [plain_opn h (k + 1) (by omega)] at h2
  simp at h2
theorem plain_sk {ts : List Tok} (h : ∀ j, j < ts.length → ¬ isO (tk ts j)) {a : Nat} (ha : a < ts.length) : sk (ends ts) a = a + 1 := by
  have hv := plain_ends h ha
  have e := sk_eq (ends ts) a
  rw [skp_no (fun c => by have := c.2.2; rw [Int.toNat_natCast, hv] at this; omega)] at e
  omega
theorem plain_plc {ts : List Tok} (h : ∀ j, j < ts.length → ¬ isO (tk ts j)) : ∀ (m a : Nat), a + m = ts.length → plc (ends ts) ts.length a = List.range' a m
  | 0, a, hm => by rw [plc_end (by omega)]; rfl
  | m + 1, a, hm => by rw [plc_on (by omega), plain_sk h (by omega), plain_plc h m (a + 1) (by omega)]; rfl
theorem plain_places {ts : List Tok} (h : ∀ j, j < ts.length → ¬ isO (tk ts j)) : plc (ends ts) ts.length 0 = List.range ts.length := by
  rw [plain_plc h ts.length 0 (by omega), List.range_eq_range']
abbrev pr (ps : List (Nat × Nat)) (i : Nat) : Nat × Nat := ps.getD i (0, 0)
/-- parts follow one another -/
theorem spl_chain (p : Nat → Bool) (tz : Nat) : ∀ (pl : List Nat) (b : Nat), (∀ x ∈ pl, b ≤ x) → pl.Pairwise (· < ·) →
    (spl p tz pl b).length = (pl.filter p).length + 1 ∧ (pr (spl p tz pl b) 0).1 = b ∧ (pr (spl p tz pl b) (pl.filter p).length).2 = tz ∧
    ∀ i, i < (pl.filter p).length → p (pr (spl p tz pl b) i).2 = true ∧ (pr (spl p tz pl b) i).2 ∈ pl ∧ (pr (spl p tz pl b) (i + 1)).1 = (pr (spl p tz pl b) i).2 + 1
  | [], b, _, _ => ⟨rfl, rfl, rfl, fun i hi => by simp at hi⟩
  | a :: r, b, hb, hs => by
    have hba := hb a (by simp)
    rw [List.pairwise_cons] at hs
    by_cases hp : p a = true
    · have e : spl p tz (a :: r) b = (b, a) :: spl p tz r (a + 1) := by rw [spl, if_pos ⟨hp, hba⟩]
      have ih := spl_chain p tz r (a + 1) (fun x hx => hs.1 x hx) hs.2
      rw [e, List.filter_cons_of_pos hp]
      refine ⟨by simp [ih.1], rfl, ?_, fun i hi => ?_⟩
      · rw [List.length_cons]; exact ih.2.2.1
      · match i, hi with
        | 0, _ => exact ⟨hp, by simp [pr], ih.2.1⟩
        | i + 1, hi =>
          have h := ih.2.2.2 i (by simpa using hi)
          exact ⟨h.1, List.mem_cons_of_mem _ h.2.1, h.2.2⟩
    · have e : spl p tz (a :: r) b = spl p tz r b := by rw [spl, if_neg (fun c => hp c.1)]
      have ih := spl_chain p tz r b (fun x hx => hb x (List.mem_cons_of_mem _ hx)) hs.2
      rw [e, List.filter_cons_of_neg hp]
      exact ⟨ih.1, ih.2.1, ih.2.2.1, fun i hi => by
        have h := ih.2.2.2 i hi
        exact ⟨h.1, List.mem_cons_of_mem _ h.2.1, h.2.2⟩⟩
/-- how many tokens of the kind stand ahead of a place -/
def cnt (ts : List Tok) (kd : Int) (i : Nat) : Nat := ((List.range i).filter (isK ts kd)).length
theorem cnt_next (ts : List Tok) (kd : Int) (i : Nat) : cnt ts kd (i + 1) = cnt ts kd i + if (tk ts i).1 = kd then 1 else 0 := by
  unfold cnt
  rw [List.range_succ, List.filter_append, List.length_append]
  by_cases h : (tk ts i).1 = kd
  · rw [if_pos h, List.filter_cons_of_pos (show isK ts kd i = true from decide_eq_true h)]; rfl
  · rw [if_neg h, List.filter_cons_of_neg (show ¬ isK ts kd i = true from fun c => h (of_decide_eq_true c))]; rfl
theorem cnt_le (ts : List Tok) (kd : Int) (i : Nat) : cnt ts kd i ≤ i := by
  unfold cnt; have := List.length_filter_le (isK ts kd) (List.range i); rw [List.length_range] at this; exact this
theorem plain_parts {ts : List Tok} (h : ∀ j, j < ts.length → ¬ isO (tk ts j)) (kd : Int) :
    (splR ts 0 ts.length kd).length = cnt ts kd ts.length + 1 ∧ (pr (splR ts 0 ts.length kd) 0).1 = 0 ∧ (pr (splR ts 0 ts.length kd) (cnt ts kd ts.length)).2 = ts.length ∧
    ∀ i, i < cnt ts kd ts.length → (tk ts (pr (splR ts 0 ts.length kd) i).2).1 = kd ∧ (pr (splR ts 0 ts.length kd) i).2 < ts.length ∧ (pr (splR ts 0 ts.length kd) (i + 1)).1 = (pr (splR ts 0 ts.length kd) i).2 + 1 := by
  have e : splR ts 0 ts.length kd = spl (isK ts kd) ts.length (plc (ends ts) ts.length 0) 0 := by
    unfold splR
    rw [if_pos (show okp ts 0 ts.length from ⟨by omega, by omega, by omega⟩)]; rfl
  rw [e, plain_places h]
  have hc := spl_chain (isK ts kd) ts.length (List.range ts.length) 0 (fun x _ => by omega) List.pairwise_lt_range
  refine ⟨hc.1, hc.2.1, hc.2.2.1, fun i hi => ?_⟩
  have h1 := hc.2.2.2 i hi
  exact ⟨of_decide_eq_true h1.1, List.mem_range.1 h1.2.1, h1.2.2⟩
theorem flat_at {ps : List (Nat × Nat)} {i : Nat} (h : i < ps.length) : Ru.g (flat ps) (i * 2) = ((pr ps i).1 : Int) ∧ Ru.g (flat ps) (i * 2 + 1) = ((pr ps i).2 : Int) := by
  induction ps generalizing i with
  | nil => simp at h
  | cons q ps ih =>
    match i, h with
    | 0, _ => exact ⟨rfl, rfl⟩
    | i + 1, h =>
      have h2 := ih (i := i) (by simpa using h)
      have e : flat (q :: ps) = (q.1 : Int) :: (q.2 : Int) :: flat ps := rfl
      rw [e, show (i + 1) * 2 = i * 2 + 1 + 1 by omega]
      exact h2
end Ns
end Go.Proofs.Ytpjdaenmfdcjhaa

/-
  The walk of the law NestPlain.
-/
namespace Go.Proofs.Ytpjdaenmfdcjhaa
open Go.RowKit

theorem pair_range {w : World} {b o : Nat} {x y : Int} (h0 : w.cell? ⟨b, o, none⟩ = some (.int .i64 x)) (h1 : w.cell? ⟨b, o + 1, none⟩ = some (.int .i64 y)) : w.rangeAt b o [.int .i64 x, .int .i64 y] := fun j v hj => by
  match j, hj with
  | 0, hj => simp only [List.getElem?_cons_zero, Option.some.injEq] at hj; subst hj; exact h0
  | 1, hj => simp only [List.getElem?_cons_succ, List.getElem?_cons_zero, Option.some.injEq] at hj; subst hj; exact h1
theorem pair_size (x y : Int) : (Try.prog.info? 39).map (·.size) = some [Value.int .i64 x, .int .i64 y].length := by kernel_rfl
set_option maxHeartbeats 16000000 in
set_option maxRecDepth 100000 in
theorem nplain_any (N : NestC) (us : List Tk.Tok) (hn : us.length ≤ 9223372036854775807) (A : Option Addr) (cap : Nat) (hc : us.length ≤ cap) (kd : Int) (w : World) (h : Ts w w.heap.size A us) :
    Calls Try.prog 8 #[.slice A us.length cap, .int .i64 kd] w (Bo true w) := by
  have CA : Hid (∀ W, Calls Try.prog 11 #[] W (Bo true W)) := Lib.hid (lawake_any N)
  by_cases hF : Pr.Fair us
  · have CF := Lib.hid (few_any us hn true (by simp [hF]) A cap w h)
    have hm := hF.1
    have H := Lib.hid h
    have HC := Lib.hid hc
    have HN := Lib.hid N
    clear hF h hc N
    go_enter Try.func8, Try.ntmps8
    go_wp2_with (first | (go_at_call 10; ((with_reducible refine (CF.out).mono ?_); rintro e w1 ⟨rfl, rfl⟩)))
    go_loopw [24] (fun v24 wr => ∃ k : Nat, k ≤ us.length ∧ v24 = .int .i64 k ∧ Hid (∀ j, j < k → ¬ Ns.isO (Tk.tk us j)) ∧ Hid (Below w.heap.size w wr)) (fun v24 _ => us.length - (RowKit.intOf v24).toNat)
    case atStart => exact ⟨0, Nat.zero_le _, rfl, Lib.hid (fun j hj => by omega), Lib.hid (Below.refl _ _)⟩
    case round =>
      obtain ⟨k, hk, rfl, HK, HB⟩ := hrel
      by_cases hlt : k < us.length
      · obtain ⟨bb, off, rfl, hbb, hp⟩ := (H.out.next HB.out) (by omega)
        obtain ⟨p0, p1, p2⟩ := hp k hlt
        have HK2 : Hid ((Tk.tk us k).1 ≠ 3 → (Tk.tk us k).1 ≠ 12 → ∀ j, j < k + 1 → ¬ Ns.isO (Tk.tk us j)) := Lib.hid fun h3 h12 j hj => by
          by_cases e : j = k
          · subst e; exact Ns.not_O h3 h12
          · exact HK.out j (by omega)
        clear hp
        generalize Tk.tk us k = u at *
        obtain ⟨x, t, n⟩ := u
        simp only at p0 p1 p2 HK2
        by_cases h3 : x = 3
        · subst h3
          clear HK2
          go_wp2_with (go_at_call 11; ((with_reducible refine (CA.out _).mono ?_); rintro e w5 ⟨rfl, b5⟩; have HB5 := Lib.hid (below_next (HB.out.alloc HB.out.size _) b5); clear b5))
          go_ret
          exact ⟨rfl, HB5.out⟩
        · have e3 : (x == 3) = false := beq_false_of_ne h3
          by_cases h12 : x = 12
          · subst h12
            clear HK2 h3
            go_wp2_with (go_at_call 11; ((with_reducible refine (CA.out _).mono ?_); rintro e w5 ⟨rfl, b5⟩; have HB5 := Lib.hid (below_next (HB.out.alloc HB.out.size _) b5); clear b5))
            go_ret
            exact ⟨rfl, HB5.out⟩
          · have e12 : (x == 12) = false := beq_false_of_ne h12
            have HV := Lib.hid (HK2.out h3 h12)
            clear h3 h12 HK2
            go_wp2_with fail
            go_roundw
            case rel => exact ⟨k + 1, by omega, by go_num, HV, Lib.hid (HB.out.alloc HB.out.size _)⟩
            case measure => simp [RowKit.intOf]; omega
      · obtain rfl : k = us.length := by omega
        have hO := HK.out
        have CE : Hid (Calls Try.prog 12 #[.slice A us.length cap] wr (EndsL (Ns.ends us) wr)) := Lib.hid ((HN.out.ends us (by omega) A cap HC.out wr (H.out.next HB.out)).mono fun e w' h => ends_rd (h.1 (Ns.plain_deep hO)))
        have hel := Ns.ends_len us
        have HEL := Lib.hid hel
        have helb : (Ns.ends us).length ≤ 100 := by omega
        have HEV : Hid (∀ k, k < us.length → Ru.g (Ns.ends us) k = -1) := Lib.hid fun k hk => Ns.plain_ends hO hk
        have HPL := Lib.hid (Ns.plain_parts hO kd)
        have CS : Hid (∀ (C : Option Addr) (cc : Nat) (W : World), (Ns.ends us).length ≤ cc → Below w.heap.size w W → Bs W W.heap.size .i64 C (Ns.ends us) → Calls Try.prog 17 #[.slice A us.length cap, .slice C (Ns.ends us).length cc, .int .i64 0, .int .i64 us.length, .int .i64 kd] W (ToldP (Ns.splR us 0 us.length kd) W)) := Lib.hid fun C cc W hcc hb hB =>
          HN.out.split us (by omega) A C cap cc HC.out hcc 0 us.length kd (by unfold I64; omega) (by unfold I64; omega) W (H.out.next hb) hB
        have hcn := Ns.cnt_le us kd us.length
        clear hO hel HK HN
        generalize Ns.splR us 0 us.length kd = sp at *
        generalize Ns.ends us = es at *
        go_wp2_with (first | (go_at_call 12; ((with_reducible refine (CE.out).mono ?_); rintro e w2 ⟨A2, c2, rfl, hc2, B2, b2⟩; have HB2 := Lib.hid (below_next HB.out b2); have HS2 := Lib.hid B2; clear b2 B2)))
        go_loopw [45] (fun v45 wi => ∃ k : Nat, k ≤ es.length ∧ v45 = .int .i64 k ∧ wi = w2) (fun v45 _ => es.length - (RowKit.intOf v45).toNat)
        case atStart => exact ⟨0, Nat.zero_le _, rfl, rfl⟩
        case round =>
          obtain ⟨k, hk, rfl, rfl⟩ := hrel
          by_cases hlt : k < es.length
          · obtain ⟨bb, off, rfl, hbb, hp⟩ := HS2.out (by omega)
            have p0 := hp k hlt
            rw [HEV.out k (by rw [← HEL.out]; exact hlt)] at p0
            clear hp
            go_wp2_with fail
            go_roundw
            case rel => exact ⟨k + 1, by omega, by go_num, by first | rfl | trivial⟩
            case measure => simp [RowKit.intOf]; omega
          · go_wp2_with (first | (go_at_call 17; ((with_reducible refine (CS.out _ _ _ hc2 HB2.out HS2.out).mono ?_); rintro e w4 ⟨A4, c4, rfl, hc4, B4, b4⟩; have HB4 := Lib.hid (below_next HB2.out b4); have HS4 := Lib.hid B4; clear b4 B4)))
            have hspl := HPL.out.1
            have HSL := Lib.hid hspl
            have hspb : sp.length ≤ 101 := by omega
            clear hspl HS2 HEV CE CS CF
            go_loopw [11, 60] (fun v11 v60 wi => ∃ i : Nat, i ≤ sp.length ∧ v60 = .int .i64 i ∧ v11 = .int .i64 ((if i < sp.length then (Ns.pr sp i).1 else us.length + 1 : Nat) : Int) ∧ Hid (Below w4.heap.size w4 wi)) (fun _ v60 _ => sp.length - (RowKit.intOf v60).toNat)
            case atStart => exact ⟨0, Nat.zero_le _, rfl, by rw [if_pos (by have := HSL.out; omega), HPL.out.2.1]; rfl, Lib.hid (Below.refl _ _)⟩
            case round =>
              obtain ⟨i, hi, rfl, rfl, HBi⟩ := hrel
              by_cases hil : i < sp.length
              · rw [if_pos hil]
                obtain ⟨b4, o4, rfl, hb4, hp4⟩ := (HS4.out.next HBi.out) (by rw [Ns.flat_len]; omega)
                have hfl := Ns.flat_at hil
                have p0 := hp4 (i * 2) (by rw [Ns.flat_len]; omega)
                have p1 := hp4 (i * 2 + 1) (by rw [Ns.flat_len]; omega)
                rw [hfl.1] at p0
                rw [hfl.2] at p1
                have HLD := Lib.hid (pair_range p0 (by rw [Nat.add_assoc]; exact p1))
                clear hp4 hfl
                by_cases hlast : i + 1 < sp.length
                · have hP := HPL.out.2.2.2 i (by have := HSL.out; omega)
                  have HX : Hid ((if i + 1 < sp.length then (Ns.pr sp (i + 1)).1 else us.length + 1 : Nat) = (Ns.pr sp i).2 + 1) := Lib.hid (by rw [if_pos hlast]; exact hP.2.2)
                  obtain ⟨bt, ot, rfl, hbt, hq⟩ := (H.out.next (below_next HB4.out HBi.out)) (by omega)
                  obtain ⟨q0, _, _⟩ := hq _ hP.2.1
                  have hy := hP.2.1
                  rw [hP.1] at q0
                  clear hq hP
                  generalize (Ns.pr sp i).2 = y at *
                  generalize (Ns.pr sp i).1 = x at *
                  go_wp2_with (with_reducible refine wpList_load_mid rfl 39 (.tmp 63) rfl b4 (o4 + i * 2) rfl _ _ HLD.out Try.underlying39 rfl (pair_size _ _) ?_)
                  go_roundw
                  case rel => exact ⟨i + 1, by omega, by go_num, by rw [HX.out]; go_num, Lib.hid (HBi.out.alloc HBi.out.size _)⟩
                  case measure => simp [RowKit.intOf]; omega
                · have HX : Hid ((if i + 1 < sp.length then (Ns.pr sp (i + 1)).1 else us.length + 1 : Nat) = us.length + 1) := Lib.hid (if_neg hlast)
                  have HL : Hid ((Ns.pr sp i).2 = us.length) := Lib.hid (by
                    have e : i = Ns.cnt us kd us.length := by have := HSL.out; omega
                    rw [e]; exact HPL.out.2.2.1)
                  rw [HL.out] at p1 HLD
                  generalize (Ns.pr sp i).1 = x at *
                  go_wp2_with (with_reducible refine wpList_load_mid rfl 39 (.tmp 63) rfl b4 (o4 + i * 2) rfl _ _ HLD.out Try.underlying39 rfl (pair_size _ _) ?_)
                  go_roundw
                  case rel => exact ⟨i + 1, by omega, by go_num, by rw [HX.out]; go_num, Lib.hid (HBi.out.alloc HBi.out.size _)⟩
                  case measure => simp [RowKit.intOf]; omega
              · rw [if_neg hil]
                have HB5 := Lib.hid (below_next HB4.out HBi.out)
                have heq : ((sp.length : Int) == ((Ns.cnt us kd us.length : Nat) : Int) + 1) = true := by rw [HSL.out]; simp
                have heq2 : (((us.length + 1 : Nat) : Int) == (us.length : Int) + 1) = true := by simp
                have HQ := Lib.hid heq
                have HQ2 := Lib.hid heq2
                clear heq heq2 HSL HPL
                go_wp2_with fail
                go_loopw [12, 92] (fun v12 v92 wj => ∃ k : Nat, k ≤ us.length ∧ v92 = .int .i64 k ∧ v12 = .int .i64 ((Ns.cnt us kd k : Nat) : Int) ∧ Hid (Below w.heap.size w wj)) (fun _ v92 _ => us.length - (RowKit.intOf v92).toNat)
                case atStart => exact ⟨0, Nat.zero_le _, rfl, rfl, HB5⟩
                case round =>
                  obtain ⟨k, hk, rfl, rfl, HBj⟩ := hrel
                  have hck := Ns.cnt_le us kd k
                  by_cases hlk : k < us.length
                  · obtain ⟨bt, ot, rfl, hbt, hq⟩ := (H.out.next HBj.out) (by omega)
                    obtain ⟨q0, q1, q2⟩ := hq k hlk
                    have HCN := Lib.hid (Ns.cnt_next us kd k)
                    clear hq
                    generalize Tk.tk us k = u at *
                    obtain ⟨x, t, n⟩ := u
                    simp only at q0 q1 q2
                    by_cases hxk : x = kd
                    · subst hxk
                      have HCV : Hid (Ns.cnt us x (k + 1) = Ns.cnt us x k + 1) := Lib.hid (by rw [HCN.out, if_pos rfl])
                      generalize Ns.cnt us x k = ct at *
                      go_wp2_with fail
                      go_roundw
                      case rel => exact ⟨k + 1, by omega, by go_num, by rw [HCV.out]; go_num, Lib.hid (HBj.out.alloc HBj.out.size _)⟩
                      case measure => simp [RowKit.intOf]; omega
                    · have exk : (x == kd) = false := beq_false_of_ne hxk
                      have HCV : Hid (Ns.cnt us kd (k + 1) = Ns.cnt us kd k) := Lib.hid (by rw [HCN.out, if_neg hxk]; rfl)
                      generalize Ns.cnt us kd k = ct at *
                      clear hxk
                      go_wp2_with fail
                      go_roundw
                      case rel => exact ⟨k + 1, by omega, by go_num, by rw [HCV.out], Lib.hid (HBj.out.alloc HBj.out.size _)⟩
                      case measure => simp [RowKit.intOf]; omega
                  · obtain rfl : k = us.length := by omega
                    have heq := HQ.out
                    have heq2 := HQ2.out
                    generalize Ns.cnt us kd us.length = ct at *
                    go_wp2_with (go_at_call 11; ((with_reducible refine (CA.out _).mono ?_); rintro e w9 ⟨rfl, b9⟩; have HB9 := Lib.hid (below_next HBj.out b9); clear b9))
                    go_ret
                    exact ⟨rfl, HB9.out⟩
  · have CF := Lib.hid (few_any us hn false (by simp [hF]) A cap w h)
    clear hF h
    go_enter Try.func8, Try.ntmps8
    go_wp2_with (first | (go_at_call 10; ((with_reducible refine (CF.out).mono ?_); rintro e w1 ⟨rfl, rfl⟩)) | (go_at_call 11; ((with_reducible refine (CA.out _).mono ?_); rintro e w5 ⟨rfl, b5⟩; have HB5 := Lib.hid b5; clear b5)))
    go_ret
    exact ⟨rfl, HB5.out⟩
end Go.Proofs.Ytpjdaenmfdcjhaa
