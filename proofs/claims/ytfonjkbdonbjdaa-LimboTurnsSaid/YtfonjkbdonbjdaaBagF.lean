/-
  Proved here: what package limbo's Ready answers, and its Pop where there is none ready; what slices.Delete leaves of entries.
  Conditions: none.
-/
import Derived.Test.YtfonjkbdonbjdaaBagE
import Derived.Test.YtfonjkbdonbjdaaArrs
import Derived.Deep.RegionLaw
namespace Go.Proofs.Ytfonjkbdonbjdaa
open Go Go.RowKit

theorem results_e7 {fn : Func} {t u : Tmp} (hf : fn.results = #[.cell t 40, .tmp u]) {tmps : Array Value} {g : Nat} (ht : tmps.getD t undef = .pointer (some ⟨g, 0, none⟩)) {v : Value} (hv : tmps.getD u undef = v) {w : World} {e : En} (h : EBox w g e) :
    (results fn tmps).run Try.prog w = .ok (.tuple #[e.val, v]) w := by
  rw [results_cell_tmp hf, ht]
  have hl := h.load
  simp [asAddr, hl, hv, Result.andThen]
/-- What first answers, whatever world nothing of old has changed in. -/
def FirstSays (w : World) (p r : Option Addr) (D : Nat) (k : Nat) (e : En) (b : Bool) : Prop :=
  ∀ w1, Below w.heap.size w w1 → Calls Try.prog 35 #[.pointer p, .pointer r, .int .u64 (D : Nat)] w1 fun y w' => y = .returned (.tuple #[.int .i64 (k : Nat), .agg #[.int .i64 e.line, .int .i64 e.cl, .int .u64 (e.r : Nat), .int .u64 (e.d : Nat), .int .i64 e.anti], .bool b]) ∧ Below w1.heap.size w1 w'
set_option maxHeartbeats 800000 in
theorem ready_says {w : World} {p r : Option Addr} {D k : Nat} {e : En} {b : Bool} (h : FirstSays w p r D k e b) :
    Calls Try.prog 17 #[.pointer p, .pointer r, .int .u64 (D : Nat)] w fun y w' => y = .returned (.tuple #[e.val, .bool b]) ∧ Below w.heap.size w w' := by
  have HF := Lib.hid h
  have HZ := Lib.hid zero_entry
  obtain ⟨g, hg⟩ : ∃ g, w.heap.size = g := ⟨_, rfl⟩
  have HG := Lib.hid hg
  have HEB : Hid (∀ (w' : World) (g : Nat), w'.heap[g]? = some (.cells #[.int .i64 e.line, .int .i64 e.cl, .int .u64 (e.r : Nat), .int .u64 (e.d : Nat), .int .i64 e.anti] 40 (0, 0)) → EBox w' g e) := fun w' g h => h
  obtain ⟨V, hV⟩ : ∃ V, V = e.val := ⟨_, rfl⟩
  have HV := Lib.hid hV
  rw [← hV]
  unfold FirstSays at HF
  generalize e.line = x0 at *
  generalize e.cl = x1 at *
  generalize e.anti = x4 at *
  generalize (e.r : Int) = x2 at *
  generalize (e.d : Int) = x3 at *
  clear h hV
  go_enter Try.func17, Try.ntmps17
  go_wp2_with (first
    | ((with_reducible show wpList _ _ _ (⟨some 6, .alloc _, _, _, _, _⟩ :: _) _ _); refine wpList_alloc_var (o := ⟨some 6, _, _, _, _, _⟩) rfl 40 rfl g HG.out _ HZ.out ?_; intro w1 H1 B1; have HB1 : Hid (Below w.heap.size w w1) := HG.out.symm ▸ B1.out)
    | ((with_reducible show Calls _ _ _ _ _); refine (HF.out _ HB1.out).mono ?_; rintro y w2 ⟨rfl, hb2⟩; have HB2 : Hid (Below w.heap.size w w2) := HB1.out.trans (hb2.mono HB1.out.size); have H2 : Hid (w2.heap[g]? = _) := (hb2.block g (lt_of_heap H1.out)).trans H1.out; obtain ⟨g2, hg2⟩ : ∃ g2, w2.heap.size = g2 := ⟨_, rfl⟩; have HG2 := Lib.hid hg2; have HL2 : Hid (g < g2) := (hg2 ▸ lt_of_heap H2.out); clear hb2 hg2)
    | ((with_reducible show wpList _ _ _ (⟨some 9, .alloc _, _, _, _, _⟩ :: _) _ _); refine wpList_alloc_var (o := ⟨some 9, _, _, _, _, _⟩) rfl 40 rfl g2 HG2.out _ HZ.out ?_; intro w3 H3 B3)
    | ((with_reducible show wpList _ _ _ (⟨none, .store _ (.tmp 9) _, _, _, _, _⟩ :: _) _ _); refine wpList_store_whole (o := ⟨none, .store 40 (.tmp 9) (.tmp 17), _, _, _, _⟩) rfl _ _ _ rfl rfl g2 #[.int .i64 x0, .int .i64 x1, .int .u64 x2, .int .u64 x3, .int .i64 x4] rfl rfl 40 _ H3.out size_entry rfl (ones5 _ _ _ _ _) ?_; intro w4 H4 B4; obtain ⟨c0, c1, c2, c3, c4⟩ := cells5 H4.out)
    | ((with_reducible show wpList _ _ _ (⟨none, .store _ (.tmp 6) _, _, _, _, _⟩ :: _) _ _); refine wpList_store_whole (o := ⟨none, .store 40 (.tmp 6) (.tmp 19), _, _, _, _⟩) rfl _ _ _ rfl rfl g #[.int .i64 x0, .int .i64 x1, .int .u64 x2, .int .u64 x3, .int .i64 x4] rfl rfl 40 _ ((B4.out.block g HL2.out).trans ((B3.out.block g HL2.out).trans H2.out)) size_entry rfl (ones5 _ _ _ _ _) ?_; intro w5 H5 B5)
    | fail)
  refine bodyPost_ret (results_e7 rfl rfl rfl (HEB.out _ _ H5.out)) rfl ⟨by rw [HV.out]; rfl, ?_⟩
  have hle : w.heap.size ≤ g2 := by rw [HG.out]; exact Nat.le_of_lt HL2.out
  exact HB2.out.trans ((B3.out.trans B4.out).mono hle |>.trans (B5.out.mono (Nat.le_of_eq HG.out)))
theorem first_nilb (w : World) (r : Option Addr) (D : Nat) : FirstSays w none r D 0 En.zero false := fun w1 _ => bgfirst_nilb w1 r D
theorem first_nilr (w : World) (p : Nat) (D : Nat) : FirstSays w (some ⟨p, 0, none⟩) none D 0 En.zero false := fun w1 _ => bgfirst_nilr w1 p D
theorem first_bag {w : World} {p lo q rp rq : Nat} {L : List En} {R : List Nat} {now : Nat} (h : BgP w p lo q L) (hr : RdP w rp rq R now) (D : Nat) :
    FirstSays w (some ⟨p, 0, none⟩) (some ⟨rp, 0, none⟩) D (if hasE (readyB (quietB R) D) L then firstAt (readyB (quietB R) D) L else 0) (headE (readyB (quietB R) D) L) (hasE (readyB (quietB R) D) L) := fun _ hb => bgfirst_any (h.below hb) (hr.below hb) D
theorem wpList_clear10 {P : Program} {ops : Array Oper} {rest : List Oper} {o : Oper} {a : Act} {Q : Exit → Act → World → Prop} (hgd : o.guard = none) (s : Operand) (t : TypeId)
    (ho : o.op = .call { callee := .builtin .clear, args := #[s], argTypes := #[t] }) {w w' : World} {v V : Value} (hs : a.eval s = v)
    (hrun : (Builtin.clear_ #[t] o.type #[v]).run P w = .ok V w') (h : wpList P ops Q rest (a.put o.dst V) w') : wpList P ops Q (o :: rest) a w :=
  wpList_plain hgd fun _ hK => by
    unfold Oper.wp execOp
    simp only [ho, resolve, invoke, builtin, Sem.run_bind, Sem.run_pure, Result.andThen_ok, List.map_toArray, List.map_cons, List.map_nil, hs, hrun]
    exact hK _ _ h
theorem run_clear_one (w : World) (b o c : Nat) (ty : TypeId) (hc : ∀ j, j < 5 → (w.cell? ⟨b, o + j, none⟩).isSome = true) (hf : ∀ j, j < 5 → w.frozen? ⟨b, o + j, none⟩ = false) :
    (Builtin.clear_ #[27] ty #[.slice (some ⟨b, o, none⟩) 1 c]).run Try.prog w = .ok (.tuple #[]) (w.setCells b o [.int .i64 0, .int .i64 0, .int .u64 0, .int .u64 0, .int .i64 0]) := by
  have hzc : (Builtin.zeroCells (Value.agg #[.int .i64 0, .int .i64 0, .int .u64 0, .int .u64 0, .int .i64 0]).cells 1).toList = [.int .i64 0, .int .i64 0, .int .u64 0, .int .u64 0, .int .i64 0] := by kernel_rfl
  have hst := run_storeCells_cells (P := Try.prog) b o [.int .i64 0, .int .i64 0, .int .u64 0, .int .u64 0, .int .i64 0] 0 w (by simpa using hc) (by simpa using hf) (by
    intro v hv
    simp only [List.mem_cons, List.not_mem_nil, or_false] at hv
    rcases hv with rfl | rfl | rfl | rfl | rfl <;> rfl)
  simp only [Nat.add_zero] at hst
  simp [Builtin.clear_, run_underlying Try.underlying27, hzc, hst]
theorem own_setCells {lo n : Nat} {q cap : Nat} {xs : List Value} : ∀ (vs : List Value) (o : Nat) (w : World), w.ownsRow lo 40 5 (.slice (some ⟨q, 0, none⟩) n cap) n xs → n * 5 ≤ o → (w.setCells q o vs).ownsRow lo 40 5 (.slice (some ⟨q, 0, none⟩) n cap) n xs ∧ w.grownBy (w.setCells q o vs) (some q)
  | [], o, w, h, _ => ⟨h, ⟨rfl, rfl, rfl, Nat.le_refl _, fun _ _ _ => rfl⟩⟩
  | v :: vs, o, w, h, ho => by
    obtain ⟨h1, h2⟩ := h.stored o v
    rw [List.set_eq_of_length_le (by rw [h.1]; exact ho)] at h1
    obtain ⟨h3, h4⟩ := own_setCells vs (o + 1) (w.setCell ⟨q, o, none⟩ v) h1 (by omega)
    exact ⟨h3, h2.trans h4⟩
set_option maxHeartbeats 1600000 in
set_option maxRecDepth 100000 in
theorem delE_any {w : World} {lo q i m cap : Nat} {L : List En} (h : w.ownsRow lo 40 5 (.slice (some ⟨q, 0, none⟩) (i + 1 + m) cap) (i + 1 + m) (encE L)) (hL : L.length = i + 1 + m) (hn : i + 1 + m ≤ 258) (hcap : i + 1 + m ≤ cap) :
    Calls Try.prog 42 #[.slice (some ⟨q, 0, none⟩) (i + 1 + m) cap, .int .i64 i, .int .i64 ((i : Int) + 1)] w fun e w' => e = .returned (.slice (some ⟨q, 0, none⟩) (i + m) cap) ∧ w'.ownsRow lo 40 5 (.slice (some ⟨q, 0, none⟩) (i + m) cap) (i + m) (encE (L.eraseIdx i)) ∧ w.grownBy w' (some q) := by
  obtain ⟨-, A0, cap0, hA0, -, hrow, -, -⟩ := rowE_of_own h (by omega)
  cases hA0
  obtain ⟨ii, hi, hz, hs, hy⟩ := entry_info'
  obtain ⟨A, hA, hsrc⟩ : ∃ A : Addr, (if cap = i + 1 then some (⟨q, 0, none⟩ : Addr) else some ⟨q, (i + 1) * 5, none⟩) = some A ∧ Hid (RowE w (some A) (L.drop (i + 1))) := by
    by_cases hc : cap = i + 1
    · refine ⟨⟨q, 0, none⟩, by simp [hc], ?_⟩
      rw [List.drop_eq_nil_of_le (by omega)]
      exact rowE_nil _ _
    · refine ⟨⟨q, (i + 1) * 5, none⟩, by simp [hc], ?_⟩
      have := hrow.drop (i + 1)
      rwa [Nat.zero_add] at this
  have ht : w.drew.ownsRow lo 40 5 (.slice (some ⟨q, 0, none⟩) i cap) i (encE (L.take i)) := by
    refine ⟨by rw [encE_len, List.length_take, hL]; omega, ?_⟩
    rcases h.2 with ⟨e, _⟩ | ⟨g, cap', cur, e, h2, h3, h4, h5, h6, h7⟩
    · cases e
    · cases e
      refine .inr ⟨q, cap, cur, rfl, h2, h3, by omega, h5, h6, ?_⟩
      have e1 : encE L = encE (L.take i) ++ encE (L.drop i) := by rw [encE_append, List.take_append_drop]
      have e2 : (encE (L.take i)).length = i * 5 := by rw [encE_len, List.length_take, hL]; omega
      have e3 : (cur.toList.take ((i + 1 + m) * 5)).take (i * 5) = cur.toList.take (i * 5) := by rw [List.take_take]; congr 1; omega
      rw [h7, e1, ← e2, List.take_left] at e3
      rw [e2] at e3
      exact e3.symm
  have hnews : ∀ j u, (encE (L.drop (i + 1)))[j]? = some u → w.drew.cell? (A.add j) = some u := fun j u hu => by
    have hj : j < (L.drop (i + 1)).length * 5 := by rw [← encE_len]; exact (List.getElem?_eq_some_iff.1 hu).1
    obtain ⟨b, off, e1, _, _⟩ := hsrc.out.2 (by omega)
    cases e1
    rw [add_plain]
    exact hsrc.out.cells_at j u hu
  obtain ⟨w1, hrun, ho1, hg1⟩ := run_append_fits (P := Try.prog) w.drew lo 27 27 40 ii 5 Try.underlying27 hi hs q i cap (encE (L.take i)) ht A m (cap - (i + 1)) (encE (L.drop (i + 1))) (by rw [encE_len, List.length_drop, hL]; omega) hnews encE_one (by omega)
  rw [encE_append, ← List.eraseIdx_eq_take_drop_succ] at ho1
  have hcl : ∀ ty, (Builtin.clear_ #[27] ty #[.slice (some ⟨q, (i + m) * 5, none⟩) 1 (cap - (i + m))]).run Try.prog w1 = .ok (.tuple #[]) (w1.setCells q ((i + m) * 5) [.int .i64 0, .int .i64 0, .int .u64 0, .int .u64 0, .int .i64 0]) := fun ty => by
    rcases ho1.2 with ⟨e, _⟩ | ⟨g, cap', cur, e, h2, h3, h4, h5, h6, h7⟩
    · cases e
    · cases e
      refine run_clear_one w1 q _ _ ty (fun j hj => ?_) (fun j hj => ?_)
      · simp [World.cell?, h3]
        omega
      · simp [World.frozen?, h3]
  obtain ⟨ho2, hg2⟩ := own_setCells [.int .i64 0, .int .i64 0, .int .u64 0, .int .u64 0, .int .i64 0] ((i + m) * 5) w1 ho1 (Nat.le_refl _)
  have HFIN : Hid (∀ w', w1.setCells q ((i + m) * 5) [.int .i64 0, .int .i64 0, .int .u64 0, .int .u64 0, .int .i64 0] = w' → w'.ownsRow lo 40 5 (.slice (some ⟨q, 0, none⟩) (i + m) cap) (i + m) (encE (L.eraseIdx i)) ∧ w.grownBy w' (some q)) := fun w' e => by
    rw [← e]
    exact ⟨ho2, (World.grownBy.trans (b := w.drew) ⟨rfl, rfl, rfl, Nat.le_refl _, fun _ _ _ => rfl⟩ (hg1.trans hg2))⟩
  have HRUN := Lib.hid hrun
  obtain ⟨w2, hw2⟩ : ∃ w2, w1.setCells q ((i + m) * 5) [.int .i64 0, .int .i64 0, .int .u64 0, .int .u64 0, .int .i64 0] = w2 := ⟨_, rfl⟩
  have HE := HFIN.out w2 hw2
  rw [hw2] at hcl
  have HCL : Hid (∀ ty, (Builtin.clear_ #[27] ty #[.slice (some ⟨q, (i + m) * 5, none⟩) (i + 1 + m - (i + m)) (cap - (i + m))]).run Try.prog w1 = .ok (.tuple #[]) w2) := fun ty => by
    rw [show i + 1 + m - (i + m) = 1 by omega]
    exact hcl ty
  have HEE := Lib.hid HE
  have hic : i ≤ cap := by omega
  have hb1 : (0 : Int) ≤ (i : Int) + 1 := by omega
  have hb2 : (i : Int) + 1 ≤ (i : Int) + 1 + (m : Int) := by omega
  have hjc : i + 1 ≤ cap := by omega
  clear h hL hsrc ht hnews ho1 hg1 hrun ho2 hg2 HFIN hw2 HE hrow hcl
  go_enter Try.func42, Try.ntmps42
  go_wp2
  go_region_law (refine step_app9 rfl (.tmp 22) (.tmp 25) 27 rfl (by simp [Act.eval, Act.put]) (by simp [Act.eval, Act.put]) HRUN.out ?_)
  all_goals
    go_wp2_with (first
      | ((with_reducible show wpList _ _ _ (⟨none, .call _, _, _, _, _⟩ :: _) _ _); refine wpList_clear10 (o := ⟨none, .call _, _, _, _, _⟩) rfl (.tmp 31) 27 rfl rfl (HCL.out _) ?_)
      | fail)
    go_ret
    exact ⟨rfl, HEE.out⟩
set_option maxHeartbeats 800000 in
theorem pop_not {w : World} {p r : Option Addr} {D k : Nat} {e : En} (h : FirstSays w p r D k e false) :
    Calls Try.prog 22 #[.pointer p, .pointer r, .int .u64 (D : Nat)] w fun y w' => y = .returned (.tuple #[e.val, .bool false]) ∧ Below w.heap.size w w' := by
  have HF := Lib.hid h
  have HZ := Lib.hid zero_entry
  obtain ⟨g, hg⟩ : ∃ g, w.heap.size = g := ⟨_, rfl⟩
  have HG := Lib.hid hg
  have HEB : Hid (∀ (w' : World) (g : Nat), w'.heap[g]? = some (.cells #[.int .i64 e.line, .int .i64 e.cl, .int .u64 (e.r : Nat), .int .u64 (e.d : Nat), .int .i64 e.anti] 40 (0, 0)) → EBox w' g e) := fun w' g h => h
  obtain ⟨V, hV⟩ : ∃ V, V = e.val := ⟨_, rfl⟩
  have HV := Lib.hid hV
  rw [← hV]
  unfold FirstSays at HF
  generalize e.line = x0 at *
  generalize e.cl = x1 at *
  generalize e.anti = x4 at *
  generalize (e.r : Int) = x2 at *
  generalize (e.d : Int) = x3 at *
  clear h hV
  go_enter Try.func22, Try.ntmps22
  go_wp2_with (first
    | ((with_reducible show wpList _ _ _ (⟨some 6, .alloc _, _, _, _, _⟩ :: _) _ _); refine wpList_alloc_var (o := ⟨some 6, _, _, _, _, _⟩) rfl 40 rfl g HG.out _ HZ.out ?_; intro w1 H1 B1; have HB1 : Hid (Below w.heap.size w w1) := HG.out.symm ▸ B1.out)
    | ((with_reducible show Calls _ _ _ _ _); refine (HF.out _ HB1.out).mono ?_; rintro y w2 ⟨rfl, hb2⟩; have HB2 : Hid (Below w.heap.size w w2) := HB1.out.trans (hb2.mono HB1.out.size); have H2 : Hid (w2.heap[g]? = _) := (hb2.block g (lt_of_heap H1.out)).trans H1.out; obtain ⟨g2, hg2⟩ : ∃ g2, w2.heap.size = g2 := ⟨_, rfl⟩; have HG2 := Lib.hid hg2; have HL2 : Hid (g < g2) := (hg2 ▸ lt_of_heap H2.out); clear hb2 hg2)
    | ((with_reducible show wpList _ _ _ (⟨some 9, .alloc _, _, _, _, _⟩ :: _) _ _); refine wpList_alloc_var (o := ⟨some 9, _, _, _, _, _⟩) rfl 40 rfl g2 HG2.out _ HZ.out ?_; intro w3 H3 B3)
    | ((with_reducible show wpList _ _ _ (⟨none, .store _ (.tmp 9) _, _, _, _, _⟩ :: _) _ _); refine wpList_store_whole (o := ⟨none, .store 40 (.tmp 9) (.tmp 17), _, _, _, _⟩) rfl _ _ _ rfl rfl g2 #[.int .i64 x0, .int .i64 x1, .int .u64 x2, .int .u64 x3, .int .i64 x4] rfl rfl 40 _ H3.out size_entry rfl (ones5 _ _ _ _ _) ?_; intro w4 H4 B4; obtain ⟨c0, c1, c2, c3, c4⟩ := cells5 H4.out)
    | ((with_reducible show wpList _ _ _ (⟨none, .store _ (.tmp 6) _, _, _, _, _⟩ :: _) _ _); refine wpList_store_whole (o := ⟨none, .store 40 (.tmp 6) (.tmp 31), _, _, _, _⟩) rfl _ _ _ rfl rfl g #[.int .i64 x0, .int .i64 x1, .int .u64 x2, .int .u64 x3, .int .i64 x4] rfl rfl 40 _ ((B4.out.block g HL2.out).trans ((B3.out.block g HL2.out).trans H2.out)) size_entry rfl (ones5 _ _ _ _ _) ?_; intro w5 H5 B5)
    | fail)
  refine bodyPost_ret (results_e7 rfl rfl rfl (HEB.out _ _ H5.out)) rfl ⟨by rw [HV.out]; rfl, ?_⟩
  have hle : w.heap.size ≤ g2 := by rw [HG.out]; exact Nat.le_of_lt HL2.out
  exact HB2.out.trans ((B3.out.trans B4.out).mono hle |>.trans (B5.out.mono (Nat.le_of_eq HG.out)))
/-- What Delete is asked in Pop, and what the store behind it leaves. -/
theorem pop_row {w : World} {p lo q : Nat} {L : List En} (h : BgP w p lo q L) (rb : En → Bool) (hh : hasE rb L = true) :
    ∃ i m cap, i = firstAt rb L ∧ L.length = i + 1 + m ∧ q ≠ p ∧ ∀ wx, Below w.heap.size w wx → wx.cell? ⟨p, 0, none⟩ = some (.slice (some ⟨q, 0, none⟩) (i + 1 + m) cap) ∧
      Calls Try.prog 42 #[.slice (some ⟨q, 0, none⟩) (i + 1 + m) cap, .int .i64 i, .int .i64 ((i : Int) + 1)] wx fun e w' => e = .returned (.slice (some ⟨q, 0, none⟩) (i + m) cap) ∧
        w'.cell? ⟨p, 0, none⟩ = some (.slice (some ⟨q, 0, none⟩) (i + 1 + m) cap) ∧ w'.frozen? ⟨p, 0, none⟩ = false ∧ BgP (w'.setCell ⟨p, 0, none⟩ (.slice (some ⟨q, 0, none⟩) (i + m) cap)) p lo q (popE rb L) ∧ Turns p q w (w'.setCell ⟨p, 0, none⟩ (.slice (some ⟨q, 0, none⟩) (i + m) cap)) ∧
        (∀ k, k < wx.heap.size → k ≠ q → k ≠ p → (w'.setCell ⟨p, 0, none⟩ (.slice (some ⟨q, 0, none⟩) (i + m) cap)).heap[k]? = wx.heap[k]?) := by
  have hlt : firstAt rb L < L.length := by simpa [hasE] using hh
  have hpop : popE rb L = L.eraseIdx (firstAt rb L) := by unfold popE; rw [if_pos hh]
  have hmost := h.most
  obtain ⟨v, hm, hown, hne, hq⟩ := h.mem
  obtain ⟨i, hi⟩ : ∃ i, i = firstAt rb L := ⟨_, rfl⟩
  rw [← hi] at hlt hpop
  obtain ⟨m, hL⟩ : ∃ m, L.length = i + 1 + m := ⟨L.length - (i + 1), by omega⟩
  rw [hL] at hown
  obtain ⟨_, A, cap, rfl, hcap, _, hA, hx⟩ := rowE_of_own hown (by omega)
  have hsome : A = some ⟨q, 0, none⟩ := by
    cases A with
    | none => have := (hA rfl).1; omega
    | some a =>
      obtain ⟨_, h2, _⟩ := hx a rfl
      rw [← hq]
      simp only [Value.ownBlock, Option.getD_some]
      rw [← h2]
  subst hsome
  have hqp : q ≠ p := fun e => hne (by rw [e]; rfl)
  refine ⟨i, m, cap, hi, hL, hqp, fun wx hb => ⟨?_, ?_⟩⟩
  · exact (hb.cell (p := ⟨p, 0, none⟩) (lt_of_heap hm)).trans (by simp [World.cell?, hm])
  · have hox : wx.ownsRow lo 40 5 (.slice (some ⟨q, 0, none⟩) (i + 1 + m) cap) (i + 1 + m) (encE L) := own_keep hown hb
    refine (delE_any hox hL (by omega) hcap).mono ?_
    rintro e w' ⟨rfl, ho, hg⟩
    have hp' : w'.heap[p]? = w.heap[p]? := (hg.block p (Nat.lt_of_lt_of_le (lt_of_heap hm) hb.size) (by simpa using fun e => hqp e.symm)).trans (hb.block p (lt_of_heap hm))
    have hlen : (popE rb L).length = i + m := by rw [hpop, List.length_eraseIdx, if_pos (by omega)]; omega
    obtain ⟨q', b1, b2, b3⟩ := Bg.step (w1 := w') (L' := popE rb L) (v' := .slice (some ⟨q, 0, none⟩) (i + m) cap) hm hne (World.grownBy.trans (grown_below hb) hg) (by rw [hlen, hpop]; exact ho) (.inl rfl) (by omega)
    have hq' : q' = q := by
      obtain ⟨v2, hm2, _, _, h4⟩ := b1.mem
      rw [heap_setCell_same w' p 0 _ _ _ (hp'.trans hm)] at hm2
      have e2 : v2 = .slice (some ⟨q, 0, none⟩) (i + m) cap := by simpa using hm2.symm
      rw [← h4, e2]
      rfl
    subst hq'
    refine ⟨rfl, by simp [World.cell?, hp', hm], by simp [World.frozen?, hp', hm], b1, ?_, fun k hk h1 h2 => ?_⟩
    · rw [← hq] at b2 ⊢
      exact b2
    · rw [Below.heap_setCell _ _ _ _ (by simpa using h2)]
      exact hg.block k hk (by simpa using h1)

end Go.Proofs.Ytfonjkbdonbjdaa
