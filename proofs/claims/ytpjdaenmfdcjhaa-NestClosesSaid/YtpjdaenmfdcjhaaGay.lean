/-
  append of whatever slice (nil or not) onto a row of the call's own. No run of the program in this text.
-/
import Derived.Test.YtpjdaenmfdcjhaaGab
import Derived.Maps.AppendAt
import Derived.OwnWalk
import Derived.Test.YtpjdaenmfdcjhaaGau
import Derived.Test.YtpjdaenmfdcjhaaGae
import Derived.LoopTactic
import Derived.IntWalk
namespace Go.Proofs.Ytpjdaenmfdcjhaa
open Go.RowKit

/-- n elements at A read as the cells xs -/
def Rdc (w : World) (A : Option Addr) (n size : Nat) (xs : List Value) : Prop :=
  xs.length = n * size ∧ (0 < n → ∃ b off, A = some ⟨b, off, none⟩ ∧ ∀ j u, xs[j]? = some u → w.cell? ⟨b, off + j, none⟩ = some u)
theorem Rdc.of_bs {w : World} {B : Nat} {A : Option Addr} {l : List Int} (h : Bs w B .u8 A l) : Rdc w A l.length 1 (nums .u8 l) :=
  ⟨by rw [nums_len]; simp, fun h0 => by
    obtain ⟨b, off, e, _, hc⟩ := h h0
    refine ⟨b, off, e, fun j u hu => ?_⟩
    obtain ⟨hj, rfl⟩ := nums_at hu
    exact hc j hj⟩
theorem Rdc.of_ts {w : World} {B : Nat} {A : Option Addr} {ts : List Tk.Tok} (h : Ts w B A ts) : Rdc w A ts.length 3 (Tk.cells ts) :=
  ⟨Tk.cells_len ts, fun h0 => by
    obtain ⟨b, off, e, _, hc⟩ := h h0
    refine ⟨b, off, e, fun j u hu => ?_⟩
    have hj : j < ts.length * 3 := by rw [← Tk.cells_len]; exact (List.getElem?_eq_some_iff.1 hu).1
    obtain ⟨c0, c1, c2⟩ := hc (j / 3) (by omega)
    obtain ⟨d0, d1, d2⟩ := Tk.cells_at ts (j / 3) (by omega)
    rcases (show j = j / 3 * 3 ∨ j = j / 3 * 3 + 1 ∨ j = j / 3 * 3 + 2 by omega) with q | q | q
    · rw [← q] at c0 d0
      rw [d0] at hu
      rw [c0]; exact hu
    · rw [Nat.add_assoc, ← q] at c1
      rw [← q] at d1
      rw [d1] at hu
      rw [c1]; exact hu
    · rw [Nat.add_assoc, ← q] at c2
      rw [← q] at d2
      rw [d2] at hu
      rw [c2]; exact hu⟩
theorem cells_ok (ts : List Tk.Tok) : ∀ u ∈ Tk.cells ts, u.oneCell' = true := by
  intro u hu
  unfold Tk.cells at hu
  obtain ⟨t, _, ht⟩ := List.mem_flatMap.1 hu
  simp only [List.mem_cons, List.not_mem_nil, or_false] at ht
  rcases ht with rfl | rfl | rfl <;> rfl
section
variable {P : Program} (w : World)
theorem run_append_none (base : Nat) (t ty e : TypeId) (i : TypeInfo) (size : Nat) (ht : P.underlying t = some (.slice e)) (hi : P.info? e = some i)
    (v : Value) (n : Nat) (xs : List Value) (hown : w.ownsRow base e size v n xs) (c : Nat) : (Builtin.append_ #[t, t] ty #[v, .slice none 0 c]).run P w = .ok v w := by
  rcases hown.2 with ⟨rfl, rfl⟩ | ⟨g, cap, cur, rfl, _, _, hnc, _⟩
  · simp [Builtin.append_, run_underlying ht, sizeOf, typeInfo, hi, Builtin.lenOf, Builtin.firstCells]
  · simp [Builtin.append_, run_underlying ht, sizeOf, typeInfo, hi, Builtin.lenOf, Builtin.firstCells, hnc, storeCells]
theorem run_append_rd (base : Nat) (t ty e : TypeId) (i : TypeInfo) (z : Value) (size bytes : Nat) (ht : P.underlying t = some (.slice e)) (hi : P.info? e = some i) (hz : i.zero = some z)
    (hsize : i.size = size) (hby : i.bytes = bytes) (hzs : z.cells.size = size) (hsz : 0 < size)
    (v : Value) (n : Nat) (xs : List Value) (hown : w.ownsRow base e size v n xs)
    (A : Option Addr) (m : Nat) (news : List Value) (c : Nat) (hr : Rdc w A m size news) (h1 : ∀ u ∈ news, u.oneCell' = true)
    (h63 : n + m ≤ maxLen) (hbytes : (n + m) * bytes ≤ 140737488355328) (hbase : base ≤ w.heap.size) :
    ∃ v' w', (Builtin.append_ #[t, t] ty #[v, .slice A m c]).run P w = .ok v' w' ∧ w'.ownsRow base e size v' (n + m) (xs ++ news) ∧ w.grownBy w' v.ownBlock := by
  rcases A with _ | ad
  · have hm : m = 0 := by
      rcases Nat.eq_zero_or_pos m with h0 | h0
      · exact h0
      · obtain ⟨b, off, h, _⟩ := hr.2 h0
        cases h
    subst hm
    have hn : news = [] := List.eq_nil_of_length_eq_zero (by rw [hr.1]; simp)
    subst hn
    exact ⟨v, w, run_append_none w base t ty e i size ht hi v n xs hown c, by simpa using hown, World.grownBy.refl w _⟩
  · have hcells : ∀ j u, news[j]? = some u → w.cell? (ad.add j) = some u := by
      intro j u hu
      have hj : j < m * size := by rw [← hr.1]; exact (List.getElem?_eq_some_iff.1 hu).1
      have hm : 0 < m := by
        rcases Nat.eq_zero_or_pos m with h0 | h0
        · rw [h0] at hj; simp at hj
        · exact h0
      obtain ⟨b, off, h, hc⟩ := hr.2 hm
      injection h with h
      subst h
      rw [Addr.add_lit]
      exact hc j u hu
    obtain ⟨v', w', hrun, h2, h3, _, _⟩ := run_append_own_at (P := P) w base t ty e i z size bytes ht hi hz hsize hby hzs hsz v n xs hown ad m c news hr.1 hcells h1 h63 hbytes hbase
    exact ⟨v', w', hrun, h2, h3⟩
theorem wpList_append_rd {ops : Array Oper} {rest : List Oper} {o : Oper} {a : Act} {Q : Exit → Act → World → Prop} (hgd : o.guard = none) (s x : Operand) (t : TypeId)
    (ho : o.op = .call { callee := .builtin .append, args := #[s, x], argTypes := #[t, t] })
    (base : Nat) (e : TypeId) (i : TypeInfo) (z : Value) (size bytes : Nat) (ht : P.underlying t = some (.slice e)) (hi : P.info? e = some i) (hz : i.zero = some z)
    (hsize : i.size = size) (hby : i.bytes = bytes) (hzs : z.cells.size = size) (hsz : 0 < size)
    (v : Value) (n : Nat) (xs : List Value) (hs : a.eval s = v) (hown : w.ownsRow base e size v n xs)
    (A : Option Addr) (m : Nat) (news : List Value) (c : Nat) (hx : a.eval x = .slice A m c) (hr : Rdc w A m size news) (h1 : ∀ u ∈ news, u.oneCell' = true)
    (h63 : n + m ≤ maxLen) (hbytes : (n + m) * bytes ≤ 140737488355328) (hbase : base ≤ w.heap.size)
    (h : ∀ v' w', w'.ownsRow base e size v' (n + m) (xs ++ news) → w.grownBy w' v.ownBlock → wpList P ops Q rest (a.put o.dst v') w') : wpList P ops Q (o :: rest) a w := by
  refine wpList_plain hgd fun K hK => ?_
  obtain ⟨v', w', hrun, h2, h3⟩ := run_append_rd (P := P) w base t o.type e i z size bytes ht hi hz hsize hby hzs hsz v n xs hown A m news c hr h1 h63 hbytes hbase
  unfold Oper.wp execOp
  simp only [ho, resolve, invoke, builtin, Sem.run_bind, Sem.run_pure, Result.andThen_ok, List.map_toArray, List.map_cons, List.map_nil, hs, hx, hrun]
  exact hK _ _ (h v' w' h2 h3)
end
/-- onto a row of the call's own, in one step -/
theorem app_all {ops : Array Oper} {rest : List Oper} {o : Oper} {a : Act} {Q : Exit → Act → World → Prop} {w0 wr : World} {v : Value} {n sz : Nat} {xs : List Value} {E : TypeId} (hgd : o.guard = none) (s x : Operand) (t : TypeId)
    (ho : o.op = .call { callee := .builtin .append, args := #[s, x], argTypes := #[t, t] }) (i : TypeInfo) (z : Value) (bytes : Nat) (ht : Try.prog.underlying t = some (.slice E)) (hi : Try.prog.info? E = some i) (hz : i.zero = some z)
    (hsize : i.size = sz) (hby : i.bytes = bytes) (hzs : z.cells.size = sz) (hsz : 0 < sz) (hs : a.eval s = v) (H : Ow E sz w0 v n xs wr) (A : Option Addr) (m c : Nat) (news : List Value)
    (hx : a.eval x = .slice A m c) (hr : Rdc wr A m sz news) (h1 : ∀ u ∈ news, u.oneCell' = true) (h63 : n + m ≤ maxLen) (hbytes : (n + m) * bytes ≤ 140737488355328)
    (h : ∀ v' w3, Ow E sz w0 v' (n + m) (xs ++ news) w3 → wpList Try.prog ops Q rest (a.put o.dst v') w3) : wpList Try.prog ops Q (o :: rest) a wr := by
  refine wpList_append_rd (w := wr) hgd s x t ho w0.heap.size E i z sz bytes ht hi hz hsize hby hzs hsz v n xs hs H.own A m news c hx hr h1 h63 hbytes H.bel.size ?_
  intro v' w3 hown hg
  exact h v' w3 ⟨hown, H.bel.grown hg H.bel.size (fun j hj => (H.own.lt j hj).1)⟩
end Go.Proofs.Ytpjdaenmfdcjhaa

/-
  The walk of the law NestCloses.
-/
namespace Go.Proofs.Ytpjdaenmfdcjhaa
open Go.RowKit

namespace Ns
open Tk
/-- the tokens and the closings so far, all but j -/
def mr (us : List Tok) (j : Nat) : List Tok := us ++ (cls us (opn us us.length)).take ((opn us us.length).length - j)
theorem mr_start (us : List Tok) : mr us (opn us us.length).length = us := by unfold mr; simp
theorem mr_end (us : List Tok) : mr us 0 = more us := by unfold mr more; rw [List.take_of_length_le (by rw [cls_len]; omega)]
theorem mr_next {us : List Tok} {j : Nat} (hj : j < (opn us us.length).length) : mr us j = mr us (j + 1) ++ [(13, clo (tk us ((opn us us.length).getD j 0)), 0)] := by
  unfold mr
  have hl := cls_len us (opn us us.length)
  rw [show (opn us us.length).length - j = ((opn us us.length).length - (j + 1)) + 1 by omega, List.take_succ_eq_append_getElem (by omega), List.append_assoc]
  have h := cls_at (ts := us) (o := opn us us.length) (i := (opn us us.length).length - (j + 1)) (by omega)
  rw [tk_eq (by omega)] at h
  rw [h]
  unfold clT
  rw [show (opn us us.length).length - 1 - ((opn us us.length).length - (j + 1)) = j by omega]
theorem mr_len {us : List Tok} {j : Nat} (hj : j ≤ (opn us us.length).length) : (mr us j).length = us.length + ((opn us us.length).length - j) := by
  unfold mr
  rw [List.length_append, List.length_take, cls_len]
  omega
theorem more_all {us : List Tok} {k : Nat} (hk : k < us.length) :
    (Ru.g (ends us) k = us.length ∧ (us.length : Int) ≤ Ru.g (ends (more us)) k ∧ Ru.g (ends (more us)) k < (more us).length) ∨ (Ru.g (ends us) k ≠ us.length ∧ Ru.g (ends (more us)) k = Ru.g (ends us) k) := by
  by_cases hm : k ∈ opn us us.length
  · left
    obtain ⟨p, hp, e⟩ := List.mem_iff_getElem.1 hm
    have h := more_open (ts := us) (p := p) hp
    rw [List.getD_eq_getElem?_getD, List.getElem?_eq_getElem hp, Option.getD_some, e] at h
    rw [h, ends_of_open hm, more_len]
    omega
  · right
    have := ends_not_open hk hm
    exact ⟨by omega, more_shut hk hm⟩
end Ns
theorem ow_empty (w : World) (E : TypeId) (sz : Nat) : Ow E sz w (.slice (some ⟨w.heap.size, 0, none⟩) 0 0) 0 [] (w.alloc (.cells #[] E)) :=
  ⟨World.ownsRow_lit w #[] 0 (Nat.le_refl _) (by decide) (by simp), (Below.refl _ _).alloc (Nat.le_refl _) _⟩
set_option maxHeartbeats 16000000 in
set_option maxRecDepth 100000 in
theorem ncloses_any (N : NestC) (us : List Tk.Tok) (hn : us.length ≤ 9223372036854775807) (A : Option Addr) (cap : Nat) (hc : us.length ≤ cap) (w : World) (h : Ts w w.heap.size A us) :
    Calls Try.prog 9 #[.slice A us.length cap] w (Bo true w) := by
  have CA : Hid (∀ W, Calls Try.prog 11 #[] W (Bo true W)) := Lib.hid (lawake_any N)
  by_cases hF : Pr.Fair us
  · have CF := Lib.hid (few_any us hn true (by simp [hF]) A cap w h)
    have CE := Lib.hid (N.ends us (by have := hF.1; omega) A cap hc w h)
    have hel := Ns.ends_len us
    have hm := hF.1
    by_cases hd : Ns.deep us
    · have CE2 := Lib.hid (CE.out.mono fun e w' h => h.2 hd)
      clear CE hd hF h hel
      go_enter Try.func9, Try.ntmps9
      go_wp2_with (first | (go_at_call 10; ((with_reducible refine (CF.out).mono ?_); rintro e w1 ⟨rfl, rfl⟩)) | (go_at_call 12; ((with_reducible refine (CE2.out).mono ?_); rintro e w2 ⟨rfl, b2⟩; have HB2 := Lib.hid b2; clear b2)) | (go_at_call 11; ((with_reducible refine (CA.out _).mono ?_); rintro e w5 ⟨rfl, b5⟩; have HB5 := Lib.hid (below_next HB2.out b5); clear b5)))
      go_ret
      exact ⟨rfl, HB5.out⟩
    · obtain ⟨i0, hi, hz0, hz1, hz2⟩ := info_parts Try.infoTok
      have CE2 : Hid (Calls Try.prog 12 #[.slice A us.length cap] w (EndsL (Ns.ends us) w)) := Lib.hid (CE.out.mono fun e w' h => ends_rd (h.1 hd))
      have CO : Hid (∀ W, Below w.heap.size w W → Calls Try.prog 24 #[.slice A us.length cap, .int .i64 us.length] W (Told .i64 (Ns.ni (Ns.opn us us.length)) W)) := Lib.hid fun W hb => (ropen_any us (by omega) A cap us.length (Nat.le_refl _) W (h.next hb)).mono fun e w' hh => told hh
      have H := Lib.hid h
      have HV : Hid (∀ k, k < us.length → (Ru.g (Ns.ends us) k = us.length ∧ (us.length : Int) ≤ Ru.g (Ns.ends (Ns.more us)) k ∧ Ru.g (Ns.ends (Ns.more us)) k < (Ns.more us).length) ∨ (Ru.g (Ns.ends us) k ≠ us.length ∧ Ru.g (Ns.ends (Ns.more us)) k = Ru.g (Ns.ends us) k)) := Lib.hid fun k hk => Ns.more_all hk
      have hol := Ns.opn_len us us.length
      have hml := Ns.more_len us
      have hnl := Ns.ni_len (Ns.opn us us.length)
      have HM : Hid (∀ (A : Option Addr) (c : Nat) (W : World), (Ns.more us).length ≤ c → Ts W W.heap.size A (Ns.more us) → Calls Try.prog 12 #[.slice A (Ns.more us).length c] W (EndsL (Ns.ends (Ns.more us)) W)) := Lib.hid fun A c W hcc hT => (N.ends (Ns.more us) (by omega) A c hcc W hT).mono fun e w' h => ends_rd (h.1 (Ns.more_deep hd))
      have hel2 := Ns.ends_len (Ns.more us)
      have h63 : 0 + us.length ≤ maxLen := by unfold maxLen; omega
      have hby : (0 + us.length) * 32 ≤ 140737488355328 := by omega
      have hnb : (Ns.ni (Ns.opn us us.length)).length ≤ 100 := by omega
      have HEL := Lib.hid hel
      have HEL2 := Lib.hid hel2
      have HML := Lib.hid hml
      have HNL := Lib.hid hnl
      have HMO : Hid (∀ x ∈ Ns.opn us us.length, x < us.length) := Lib.hid fun x hx => Ns.opn_lt hx
      clear CE hd hF h hel hel2 hml hnl
      go_enter Try.func9, Try.ntmps9
      go_wp2_with (first | (go_at_call 10; ((with_reducible refine (CF.out).mono ?_); rintro e w1 ⟨rfl, rfl⟩)) | (go_at_call 12; ((with_reducible refine (CE2.out).mono ?_); rintro e w2 ⟨A2, c2, rfl, hc2, B2, b2⟩; have HB2 := Lib.hid b2; have HS2 := Lib.hid B2; clear b2 B2)) | (go_at_call 24; ((with_reducible refine (CO.out _ HB2.out).mono ?_); rintro e w3 ⟨A3, c3, rfl, hc3, B3, b3⟩; have HB3 := Lib.hid (below_next HB2.out b3); have HS3 := Lib.hid B3; have HS4 := Lib.hid (HS2.out.next b3); clear b3 B3)) | (at_builtin; refine app_all rfl _ _ 22 rfl i0 zTok 32 Try.underlying22 hi hz0 hz1 hz2 rfl (by decide) rfl (ow_empty w3 _ 3) A us.length cap (Tk.cells us) rfl (Rdc.of_ts (H.out.next (HB3.out.alloc HB3.out.size _))) (cells_ok us) h63 hby ?_; intro v' w4 H4; have HO4 := Lib.hid H4; clear H4))
      have HST : Hid (Ow 31 3 w3 v' (Ns.mr us (Ns.ni (Ns.opn us us.length)).length).length (tkC (Ns.mr us (Ns.ni (Ns.opn us us.length)).length)) w4) := Lib.hid (by
        have h := HO4.out
        rw [Nat.zero_add, List.nil_append] at h
        rw [HNL.out, Ns.mr_start]
        exact h)
      clear HO4 CF CE2 CO
      go_loopw [6, 7] (fun v6 v7 wi => ∃ j : Nat, j ≤ (Ns.ni (Ns.opn us us.length)).length ∧ v7 = .int .i64 ((j : Int) - 1) ∧ Ow 31 3 w3 v6 (Ns.mr us j).length (tkC (Ns.mr us j)) wi) (fun _ v7 _ => (RowKit.intOf v7 + 1).toNat)
      case atStart => exact ⟨_, Nat.le_refl _, rfl, HST.out⟩
      case round =>
        obtain ⟨j, hj, rfl, hown⟩ := hrel
        have HO := Lib.hid hown
        have hrl := Ns.mr_len (us := us) (j := j) (by have := HNL.out; omega)
        have hrb : (Ns.mr us j).length ≤ 1000000 := by omega
        clear hown HST
        by_cases hj0 : j = 0
        · subst hj0
          have hme := Ns.mr_end us
          rw [hme] at HO hrl
          obtain ⟨A7, c7, rfl, hc7⟩ := HO.out.form
          have CM := Lib.hid (HM.out A7 c7 _ hc7 (Ts.of_own HO.out.own))
          have hmb : (Ns.more us).length ≤ 1000 := by omega
          have hml2 : us.length ≤ (Ns.more us).length := by omega
          have HB4 := Lib.hid (below_next HB3.out HO.out.bel)
          have HS5 := Lib.hid (HS4.out.next HO.out.bel)
          clear hme hrl hrb HM HML HNL HMO HS3 HS2 HS4 HB2 HB3 hj
          generalize Ns.ends (Ns.more us) = em at *
          generalize Ns.ends us = es at *
          generalize Ns.more us = ml at *
          have hne : ((em.length : Int) != (ml.length : Int)) = false := Ru.ne_f (by rw [HEL2.out])
          have hne2 : (em.length != ml.length) = false := by simp [HEL2.out]
          go_wp2_with (first | (go_at_call 12; ((with_reducible refine (CM.out).mono ?_); rintro e w7 ⟨A8, c8, rfl, hc8, B8, b8⟩; have HB8 := Lib.hid (below_next HB4.out b8); have HS8 := Lib.hid B8; have HS9 := Lib.hid (HS5.out.next b8); clear b8 B8)))
          clear hne hne2
          go_loopw [65] (fun v65 wi => ∃ k : Nat, k ≤ us.length ∧ v65 = .int .i64 k ∧ Hid (Below w7.heap.size w7 wi)) (fun v65 _ => us.length - (RowKit.intOf v65).toNat)
          case atStart => exact ⟨0, Nat.zero_le _, rfl, Lib.hid (Below.refl _ _)⟩
          case round =>
            obtain ⟨k, hk, rfl, HBi⟩ := hrel
            by_cases hlt : k < us.length
            · have hke : k < es.length := by rw [HEL.out]; exact hlt
              have hkm : k < em.length := by rw [HEL2.out]; omega
              obtain ⟨b1, o1, rfl, hb1, hp1⟩ := (HS9.out.next HBi.out) (by omega)
              obtain ⟨b2, o2, rfl, hb2, hp2⟩ := (HS8.out.next HBi.out) (by omega)
              have p0 := hp1 k hke
              have q0 := hp2 k hkm
              have hv := HV.out k hlt
              clear hp1 hp2
              generalize Ru.g es k = x at *
              generalize Ru.g em k = y at *
              rcases hv with ⟨h1, h2, h3⟩ | ⟨h1, h2⟩
              · have e1 : (x == (us.length : Int)) = true := by rw [h1]; exact beq_self_eq_true _
                have e2 : decide (y < (us.length : Int)) = false := decide_eq_false (by omega)
                have e3 : decide ((ml.length : Int) ≤ y) = false := decide_eq_false (by omega)
                clear h1 h2 h3
                go_wp2_with fail
                go_roundw
                case rel => exact ⟨k + 1, by omega, by go_num, HBi⟩
                case measure => simp [RowKit.intOf]; omega
              · have e1 : (x == (us.length : Int)) = false := beq_false_of_ne h1
                subst h2
                clear h1
                go_wp2_with fail
                go_quiet (fail)
                go_wp2_with fail
                go_roundw
                case rel => exact ⟨k + 1, by omega, by go_num, Lib.hid (below_drewN HBi.out _)⟩
                case measure => simp [RowKit.intOf]; omega
            · go_wp2_with (go_at_call 11; ((with_reducible refine (CA.out _).mono ?_); rintro e w9 ⟨rfl, b9⟩; have HB9 := Lib.hid (below_next HB8.out (below_next HBi.out b9)); clear b9))
              go_ret
              exact ⟨rfl, HB9.out⟩
        · obtain ⟨m, rfl⟩ : ∃ m, j = m + 1 := ⟨j - 1, by omega⟩
          have hmo : m < (Ns.opn us us.length).length := by have := HNL.out; omega
          have HN := Lib.hid (Ns.mr_next (us := us) (j := m) hmo)
          have hx := HMO.out ((Ns.opn us us.length).getD m 0) (by rw [List.getD_eq_getElem?_getD, List.getElem?_eq_getElem hmo]; exact List.getElem_mem _)
          obtain ⟨bb, off, rfl, hbb, hp⟩ := (HS3.out.next HO.out.bel) (by omega)
          have p0 := hp m (by omega)
          rw [Ns.ni_g hmo] at p0
          obtain ⟨bt, ot, rfl, hbt, hq⟩ := (H.out.next (below_next HB3.out HO.out.bel)) (by omega)
          obtain ⟨q0, q1, q2⟩ := hq _ hx
          have hml : m < (Ns.ni (Ns.opn us us.length)).length := by omega
          have C : Hid (∀ W, Calls Try.prog 25 #[.agg #[.int .i64 (Tk.tk us ((Ns.opn us us.length).getD m 0)).1, .string (Tk.tk us ((Ns.opn us us.length).getD m 0)).2.1, .int .i64 (Tk.tk us ((Ns.opn us us.length).getD m 0)).2.2]] W (Sg (Ns.clo (Tk.tk us ((Ns.opn us us.length).getD m 0))) W)) := Lib.hid fun W => rclose_any _ _ _ W
          have HE : Hid ((((m + 1 : Nat) : Int) - 1) = (m : Int)) := Lib.hid (by omega)
          clear hp hq hrl hmo
          generalize Ns.clo (Tk.tk us ((Ns.opn us us.length).getD m 0)) = cl at *
          generalize Tk.tk us ((Ns.opn us us.length).getD m 0) = u at *
          generalize (Ns.opn us us.length).getD m 0 = x at *
          rw [HE.out]
          go_wp2_with (first | (go_at_call 25; ((with_reducible refine (C.out _).mono ?_); rintro e w5 ⟨rfl, b5⟩; have HO1 := Lib.hid (HO.out.next b5); clear b5)) | (at_builtin; refine app_tok rfl _ _ rfl rfl HO1.out _ _ _ _ _ _ rfl rfl hrb ?_; intro v' w6 H6; have HO3 := Lib.hid H6; clear H6))
          go_roundw
          case rel => exact ⟨m, by omega, rfl, by rw [HN.out]; exact HO3.out⟩
          case measure => simp [RowKit.intOf]; try omega
  · have CF := Lib.hid (few_any us hn false (by simp [hF]) A cap w h)
    clear hF h
    go_enter Try.func9, Try.ntmps9
    go_wp2_with (first | (go_at_call 10; ((with_reducible refine (CF.out).mono ?_); rintro e w1 ⟨rfl, rfl⟩)) | (go_at_call 11; ((with_reducible refine (CA.out _).mono ?_); rintro e w5 ⟨rfl, b5⟩; have HB5 := Lib.hid b5; clear b5)))
    go_ret
    exact ⟨rfl, HB5.out⟩
end Go.Proofs.Ytpjdaenmfdcjhaa
