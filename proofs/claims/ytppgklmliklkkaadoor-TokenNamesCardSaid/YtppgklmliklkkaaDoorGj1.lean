/-
  Words for a map literal whose entries are laid in whatever order, and for a range over it. (For the law TokenNames.)
-/
import Derived.Test.YtppgklmliklkkaaDoorGk2
import Derived.Test.YtppgklmliklkkaaDoorGj0
import Derived.Deep.RegionWith
import Derived.Maps.RangeRun
import Derived.Maps.Keyed
import Derived.Maps.Own
namespace Go.Proofs.YtppgklmliklkkaaDoor
open Go.RowKit Go.WideElems Go.Maps Go.WideMaps Go.MapKept
open Go.ChangeMaps (putKey notKey)
open Go.ChangeMaps (setBlock heap_setBlock_same heap_setBlock_other)

/-- how an element reads: as nothing, whatever it is -/
def rdNm : Value → Option (DataW Unit × List MemPlace) := fun _ => some (.nil, [])
/-- block M is a map of at most n entries, each of which Ok lets in -/
def HoldsMap (Ok : ByteArray → Value → Prop) (M n : Nat) (w : World) : Prop :=
  ∃ es clock, w.heap[M]? = some (.map es clock) ∧ Fit Tryd.prog 9 rdNm es clock ∧ es.size ≤ n ∧ ∀ e ∈ es.toList, ∃ k, e.key = .string k ∧ Ok k e.val
theorem key_str {k : ByteArray} (hk : k.size ≤ maxLen) : ∃ kl, keyOf Tryd.prog 9 (.string k) = some kl := by
  refine ⟨.string k.data.toList, ?_⟩
  simp [keyOf, mapKey, Tryd.underlying9, hk]
theorem HoldsMap.insert {Ok : ByteArray → Value → Prop} {M n : Nat} {w : World} (h : HoldsMap Ok M n w) (hn : n < maxLen) {k : ByteArray} {v : Value} (hk : k.size ≤ maxLen) (hv : Ok k v) :
    ∃ w', (Instr.mapUpdate 36 (.map (some M)) (.string k) v).run Tryd.prog w = .ok () w' ∧ HoldsMap Ok M (n + 1) w' ∧ ∀ B a, B ≤ M → Below B a w → Below B a w' := by
  obtain ⟨es, clock, hb, F, hs, hall⟩ := h
  obtain ⟨kl, hkl⟩ := key_str hk
  obtain ⟨es', clock', hrun, F', hput, _, _, hmem⟩ := fit_store (R' := rdNm) (string_keyed Tryd.underlying9) Tryd.underlying36 hb F (Nat.lt_of_le_of_lt hs hn) (val := v) (yv := (.nil, [])) (fun _ _ _ _ hz => hz) hkl rfl
  refine ⟨_, hrun, ⟨es', clock', heap_setBlock_same hb _, F', ?_, ?_⟩, ?_⟩
  · have e1 : es'.size = ((es'.toList.map (rg Tryd.prog 9 rdNm)).foldr DataW.insert []).length := by rw [length_sorted]; simp
    rw [e1, hput]
    unfold putKey
    rw [length_insert]
    have e2 := List.length_filter_le (notKey kl) ((es.toList.map (rg Tryd.prog 9 rdNm)).foldr DataW.insert [])
    rw [length_sorted] at e2
    simp at e2
    omega
  · intro e he
    rcases hmem e he with ⟨h1, _⟩ | ⟨h1, h2⟩
    · exact hall e h1
    · exact ⟨k, h1, by rw [h2]; exact hv⟩
  · intro B a hB hb'
    exact hb'.trans ⟨rfl, rfl, rfl, by simp [setBlock], fun i hi => heap_setBlock_other hb _ (by omega)⟩
theorem HoldsMap.made (Ok : ByteArray → Value → Prop) (w : World) : HoldsMap Ok w.heap.size 0 (w.alloc (.map #[] 0)) :=
  ⟨#[], 0, (by show (w.heap.push _)[w.heap.size]? = _; simp), ⟨by simp, MapKept.stamped_empty 0, by simp⟩, by simp, by simp⟩
theorem HoldsMap.kept {Ok : ByteArray → Value → Prop} {M n : Nat} {w w' : World} (h : HoldsMap Ok M n w) (hg : w'.heap[M]? = w.heap[M]?) : HoldsMap Ok M n w' := by
  obtain ⟨es, clock, hb, r⟩ := h
  exact ⟨es, clock, hg.trans hb, r⟩

/-- does every order of these operations, one fewer each time, end where all have come -/
def walkAll (md : Region.Mode) (ops : Array Oper) (is : List Nat) (full : Array Bool) : Nat → Array Bool → Bool
  | 0, listed => listed == full
  | n + 1, listed => (!(Region.ready md ops listed).isEmpty) && (Region.ready md ops listed).all fun i => is.contains i && walkAll md ops is full n (listed.setIfInBounds i true)
/-- whatever order they come in: each one keeps what I says, and leaves the frame -/
theorem any_order {P : Program} {md : Region.Mode} {ops : Array Oper} {Q : Exit → Act → World → Prop} {a : Act} {I : Nat → World → Prop} {is : List Nat} {full : Array Bool} {m : Nat}
    (hstep : ∀ i ∈ is, ∀ (K : Act → World → Prop) n w, n < 100 → I n w → (∀ w', I (n + 1) w' → K a w') → wpOp P ops Q i K a w) :
    ∀ (n j : Nat) (listed : Array Bool), j + n < 100 → (∀ w, I (j + n) w → wpAny P md ops Q m full a w) → walkAll md ops is full n listed = true → ∀ w, I j w → wpAny P md ops Q (m + n) listed a w
  | 0, j, listed, hj, hf, h, w, hI => by
    have e : listed = full := by simpa [walkAll] using h
    subst e
    exact hf w hI
  | n + 1, j, listed, hj, hf, h, w, hI => by
    simp only [walkAll, Bool.and_eq_true, List.all_eq_true, Bool.not_eq_true', List.contains_iff_mem] at h
    obtain ⟨h1, h2⟩ := h
    refine ⟨fun h0 => ?_, fun i hi => ?_⟩
    · rw [h0] at h1; simp at h1
    · obtain ⟨h3, h4⟩ := h2 i hi
      refine hstep i h3 _ j w (by omega) hI fun w' hI' => ?_
      exact any_order hstep n (j + 1) _ (by omega) (fun w hw => hf w (by rw [show j + (n + 1) = j + 1 + n by omega]; exact hw)) h4 w' hI'
/-- one entry laid -/
theorem insert_step {P : Program} {ops : Array Oper} {Q : Exit → Act → World → Prop} {a : Act} {w w' : World} {i : Nat} {o : Oper} {K : Act → World → Prop} {t : TypeId} {m x v : Operand} (ho : ops[i]? = some o) (hg : o.guard = none) (hd : o.dst = none) (hop : o.op = .insert t m x v)
    (hrun : (Instr.mapUpdate t (a.eval m) (a.eval x) (a.eval v)).run P w = .ok () w') (hK : K a w') : wpOp P ops Q i K a w := by
  unfold wpOp
  rw [ho]
  simp only
  rw [if_pos (by unfold Region.wanted; rw [hg])]
  left
  unfold Oper.wp
  simp [execOp, hop, hrun, Result.andThen, Oper.upon, hd]
  exact hK
/-- the entries of the law's literal -/
def NameOk (s k : ByteArray) (v : Value) : Prop := ∃ kind : Int, v = .agg #[.int .i64 kind, .string s, .int .i64 0] ∧ k.size ≤ 900 ∧ Tk.scan (Ru.rd (Ru.bs k)) 0 = [(kind, s, 0)]
theorem names_ok {s t : ByteArray} (h : Tk.Wd (Ru.bs s)) (hs : s.size ≤ 200) (ht : Ru.bs t = Tk.escs (Ru.bs s)) (hts : t.size ≤ 800) :
    NameOk s s (.agg #[.int .i64 2, .string s, .int .i64 0]) ∧ NameOk s (⟨#[64]⟩ ++ s) (.agg #[.int .i64 4, .string s, .int .i64 0]) ∧ NameOk s (⟨#[35]⟩ ++ s) (.agg #[.int .i64 5, .string s, .int .i64 0]) ∧ NameOk s (s ++ ⟨#[40]⟩) (.agg #[.int .i64 3, .string s, .int .i64 0]) ∧ NameOk s t (.agg #[.int .i64 2, .string s, .int .i64 0]) := by
  have ha := h.asc
  have hstr : Tk.str (Ru.bs s) = s := by
    unfold Tk.str
    rw [Ru.wr_asc _ (fun c hc => by have := h.2 c hc; unfold Tk.NmC at this; omega)]
    unfold strOfNums Ru.bs
    rw [List.map_map]
    have : s = ⟨s.data⟩ := rfl
    rw [this]
    congr 1
    apply Array.ext'
    simp only
    apply List.ext_getElem
    · simp
    · intro i h1 h2
      simp
  have e2 : Ru.bs (⟨#[64]⟩ ++ s) = 64 :: Ru.bs s := by rw [bs_app]; rfl
  have e3 : Ru.bs (⟨#[35]⟩ ++ s) = 35 :: Ru.bs s := by rw [bs_app]; rfl
  have e4 : Ru.bs (s ++ ⟨#[40]⟩) = Ru.bs s ++ [40] := by rw [bs_app]; rfl
  have hl := Ru.bs_len s
  refine ⟨⟨2, rfl, by omega, ?_⟩, ⟨4, rfl, ?_, ?_⟩, ⟨5, rfl, ?_, ?_⟩, ⟨3, rfl, ?_, ?_⟩, ⟨2, rfl, by omega, ?_⟩⟩
  · rw [Tk.rd_self ha, Tk.scan_n1 h, hstr]
  · rw [size_of_bs e2, List.length_cons]; omega
  · rw [e2, Tk.rd_self (fun c hc => by rcases List.mem_cons.1 hc with rfl | hc; exact (by unfold Ru.Asc; omega); exact ha c hc), Tk.scan_n2 h, hstr]
  · rw [size_of_bs e3, List.length_cons]; omega
  · rw [e3, Tk.rd_self (fun c hc => by rcases List.mem_cons.1 hc with rfl | hc; exact (by unfold Ru.Asc; omega); exact ha c hc), Tk.scan_n3 h, hstr]
  · rw [size_of_bs e4, List.length_append]; simp; omega
  · rw [e4, Tk.rd_self (fun c hc => by rcases List.mem_append.1 hc with hc | hc; exact ha c hc; (rw [List.mem_singleton] at hc; subst hc; unfold Ru.Asc; omega)), Tk.scan_n4 h, hstr]
  · rw [ht, Tk.rd_self (Tk.escs_asc h.2), Tk.scan_n5 h, hstr]
theorem ts_kind (w : World) (n : Int) (t : ByteArray) : Ts (w.alloc (.cells #[.int .i64 n, .string t, .int .i64 0] 29)) (w.alloc (.cells #[.int .i64 n, .string t, .int .i64 0] 29)).heap.size (some ⟨w.heap.size, 0, none⟩) [(n, t, 0)] := fun _ =>
  ⟨w.heap.size, 0, rfl, by simp, fun j hj => by
    match j, hj with
    | 0, _ => exact ⟨by rw [World.cell?_alloc_mark]; rfl, by rw [World.cell?_alloc_mark]; rfl, by rw [World.cell?_alloc_mark]; rfl⟩⟩
/-- one step of the range: what has turned -/
theorem step_world {wx wy : World} {R M B : Nat} {o o' : Obj} {a : World} (hal : wy = wx ∨ wy = wx.drew) (hR : wx.heap[R]? = some o) (hne : M ≠ R) (hB : B ≤ R) (hb : Below B a wx) :
    (setBlock wy R o').heap[R]? = some o' ∧ (setBlock wy R o').heap[M]? = wx.heap[M]? ∧ Below B a (setBlock wy R o') := by
  have e : wy.heap = wx.heap := by rcases hal with rfl | rfl <;> rfl
  have hb' : Below B a wy := by
    rcases hal with rfl | rfl
    · exact hb
    · exact hb.drew
  have hlt : R < wx.heap.size := by
    by_cases c : R < wx.heap.size
    · exact c
    · rw [Array.getElem?_eq_none (by omega)] at hR; cases hR
  refine ⟨?_, ?_, ?_⟩
  · simp [setBlock, e, hlt]
  · simp only [setBlock, e]
    rw [Array.getElem?_setIfInBounds_ne (by omega)]
  · exact hb'.trans ⟨rfl, rfl, rfl, by simp [setBlock], fun i hi => by
      simp only [setBlock]
      rw [Array.getElem?_setIfInBounds_ne (by omega)]⟩
theorem filter_less {p q : MapEntry → Bool} (hq : ∀ x, q x = true → p x = true) {e : MapEntry} (hp : p e = true) (hn : q e = false) : ∀ l : List MapEntry, e ∈ l → (l.filter q).length < (l.filter p).length
  | [], h => by cases h
  | x :: l, h => by
    have hle : (l.filter q).length ≤ (l.filter p).length := by
      rw [← List.countP_eq_length_filter, ← List.countP_eq_length_filter]
      exact List.countP_mono_left (fun x _ h => hq x h)
    simp only [List.filter_cons]
    rcases List.mem_cons.1 h with rfl | h
    · rw [hp, hn]; simp; omega
    · have ih := filter_less hq hp hn l h
      have hx := hq x
      cases hqx : q x <;> cases hpx : p x <;> simp_all <;> omega
theorem left_less {es : Array MapEntry} {seen : Array Nat} {e : MapEntry} (h : e ∈ (leftOf es seen).toList) : (leftOf es (seen.push e.born)).size < (leftOf es seen).size ∧ e ∈ es.toList := by
  have e1 : ∀ sn : Array Nat, (leftOf es sn).toList = es.toList.filter (fun x => !sn.contains x.born) := fun sn => by unfold leftOf; exact Array.toList_filter
  have e2 : ∀ sn : Array Nat, (leftOf es sn).size = (es.toList.filter (fun x => !sn.contains x.born)).length := fun sn => by rw [← e1, Array.length_toList]
  rw [e1, List.mem_filter] at h
  rw [e2, e2]
  refine ⟨filter_less (fun x hx => ?_) h.2 ?_ _ h.1, h.1⟩
  · simp at hx ⊢; exact hx.1
  · simp
theorem keep_block {W1 w5 : World} {o v : Obj} {M : Nat} (h : W1.heap[M]? = some v) (hb : Below (W1.alloc o).heap.size (W1.alloc o) w5) : w5.heap[M]? = some v := by
  have hlt : M < W1.heap.size := by
    by_cases c : M < W1.heap.size
    · exact c
    · rw [Array.getElem?_eq_none (by omega)] at h; cases h
  have h2 : M < (W1.alloc o).heap.size := by
    show M < (W1.heap.push _).size
    simp; omega
  exact ((hb.block M h2).trans (Below.heap_alloc W1 o M hlt)).trans h
theorem cell_keep {W1 w3 : World} {t : TypeId} {x y z : Value} (hb : Below (W1.alloc (.cells #[x, y, z] t)).heap.size (W1.alloc (.cells #[x, y, z] t)) w3) :
    w3.cell? ⟨W1.heap.size, 0, none⟩ = some x ∧ w3.cell? ⟨W1.heap.size, 1, none⟩ = some y ∧ w3.cell? ⟨W1.heap.size, 2, none⟩ = some z := by
  have h2 : W1.heap.size < (W1.alloc (.cells #[x, y, z] t)).heap.size := by
    show W1.heap.size < (W1.heap.push _).size
    simp
  exact ⟨(hb.cell h2).trans (by rw [World.cell?_alloc_mark]; rfl), (hb.cell h2).trans (by rw [World.cell?_alloc_mark]; rfl), (hb.cell h2).trans (by rw [World.cell?_alloc_mark]; rfl)⟩
/-- range over it -/
theorem run_range {M clock : Nat} {es : Array MapEntry} {w : World} (h : w.heap[M]? = some (.map es clock)) :
    (Instr.range 36 (.map (some M))).run Tryd.prog w = .ok (.pointer (some ⟨w.heap.size, 0, none⟩)) (w.alloc (.mapIter (some M) clock #[] clock)) := by
  simp [Instr.range, run_underlying Tryd.underlying36, MapKept.run_getObj_map h, Result.andThen, newObj, Sem.run]
/-- a hex digit, out of the text of all -/
theorem index_hx (d : Int) (h0 : 0 ≤ d) (h1 : d ≤ 15) (W : World) : (Instr.index 9 (.string ⟨#[48, 49, 50, 51, 52, 53, 54, 55, 56, 57, 97, 98, 99, 100, 101, 102]⟩) (.int .u8 d)).run Tryd.prog W = .ok (.int .u8 (Tk.hx d)) W := by
  rcases (show d = 0 ∨ d = 1 ∨ d = 2 ∨ d = 3 ∨ d = 4 ∨ d = 5 ∨ d = 6 ∨ d = 7 ∨ d = 8 ∨ d = 9 ∨ d = 10 ∨ d = 11 ∨ d = 12 ∨ d = 13 ∨ d = 14 ∨ d = 15 by omega) with rfl | rfl | rfl | rfl | rfl | rfl | rfl | rfl | rfl | rfl | rfl | rfl | rfl | rfl | rfl | rfl
  all_goals kernel_rfl
theorem bits_all : ∀ n : Fin 256, bits BinOp.and IntKind.u8 (n.val : Int) 15 = (n.val : Int) % 16 := by decide +kernel
theorem bits_15 (n : Nat) (h : n < 256) : bits BinOp.and IntKind.u8 (n : Int) 15 = (n : Int) % 16 := bits_all ⟨n, h⟩
/-- two bytes, as a string -/
theorem conv_two (W : World) (a b : Int) : (convert 22 9 (.slice (some ⟨W.heap.size, 0, none⟩) 2 2)).run Tryd.prog (W.alloc (.cells #[.int .u8 a, .int .u8 b] 5)).drew = .ok (.string (strOfNums [a, b])) (W.alloc (.cells #[.int .u8 a, .int .u8 b] 5)).drew :=
  run_convert_bytes_arg _ 22 5 Tryd.underlying22 Tryd.underlying5 W.heap.size 0 2 2 [a, b] rfl (fun i hi => by
    match i, hi with
    | 0, _ => show (W.alloc (.cells #[.int .u8 a, .int .u8 b] 5)).cell? _ = _; rw [World.cell?_alloc_mark]; rfl
    | 1, _ => show (W.alloc (.cells #[.int .u8 a, .int .u8 b] 5)).cell? _ = _; rw [World.cell?_alloc_mark]; rfl) 9 Tryd.underlying9
theorem hx_byte {d : Int} (h0 : 0 ≤ d) (h1 : d ≤ 15) : 0 ≤ Tk.hx d ∧ Tk.hx d < 256 := by unfold Tk.hx; omega
theorem bs_nums {l : List Int} (h : ∀ c ∈ l, 0 ≤ c ∧ c < 256) : Ru.bs (strOfNums l) = l := by
  unfold strOfNums Ru.bs
  simp only [List.map_map]
  have : ∀ c ∈ l, ((fun b : UInt8 => (b.toNat : Int)) ∘ fun c : Int => UInt8.ofNat c.toNat) c = c := fun c hc => by
    have := h c hc
    simp only [Function.comp]
    rw [show (UInt8.ofNat c.toNat).toNat = c.toNat % 256 from UInt8.toNat_ofNat']
    omega
  first | (rw [List.map_congr_left this]; simp) | skip
/-- one character more, escaped -/
theorem bs_more {t s : ByteArray} {k : Nat} {c : Int} (ht : Ru.bs t = Tk.escs ((Ru.bs s).take k)) (hk : k < s.size) (hc : Ru.g (Ru.bs s) k = c) (h0 : 0 ≤ c) (h1 : c < 256) :
    Ru.bs (t ++ (⟨#[92]⟩ ++ strOfNums [Tk.hx (c / 16), Tk.hx (c % 16)] ++ ⟨#[32]⟩)) = Tk.escs ((Ru.bs s).take (k + 1)) := by
  have hl := Ru.bs_len s
  have e : (Ru.bs s).take (k + 1) = (Ru.bs s).take k ++ [c] := by
    rw [List.take_succ_eq_append_getElem (by omega)]
    rw [← Ru.g_eq (by omega), hc]
  rw [e, bs_app, bs_app, bs_app, ht, bs_nums (l := [Tk.hx (c / 16), Tk.hx (c % 16)]) (fun x hx => by
    simp only [List.mem_cons, List.not_mem_nil, or_false] at hx
    rcases hx with rfl | rfl
    · exact hx_byte (by omega) (by omega)
    · exact hx_byte (by omega) (by omega))]
  unfold Tk.escs
  rw [List.flatMap_append]
  rfl
end Go.Proofs.YtppgklmliklkkaaDoor
