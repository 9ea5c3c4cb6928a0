/-
  Proved here: what chapter 10's own Ready and Pop answer and leave.
  Conditions: none.
-/
import Derived.Test.YtfonjkbdonbjdaaRef10B
namespace Go.Proofs.Ytfonjkbdonbjdaa
open Go Go.RowKit

theorem head_at {p : En → Bool} {L : List En} (h : hasE p L = true) : L[firstAt p L]? = some (headE p L) := by
  have hl : firstAt p L < L.length := by simpa [hasE] using h
  rw [headE, List.getD, List.getElem?_eq_getElem hl]
  rfl
set_option maxHeartbeats 800000 in
set_option maxRecDepth 100000 in
theorem rready_any {w : World} {p lo q rp rq : Nat} {L : List En} {R : List Nat} {now : Nat} (h : RbP w p lo q L) (hr : RdR w rp rq R now) (D : Nat) :
    Calls Try.prog 30 #[.pointer (some ⟨p, 0, none⟩), .pointer (some ⟨rp, 0, none⟩), .int .u64 (D : Nat)] w fun y w' =>
      y = .returned (.tuple #[(headE (readyB (quietB R) D) L).val, .bool (hasE (readyB (quietB R) D) L)]) ∧ Below w.heap.size w w' := by
  have HF : Hid (∀ wx, Below w.heap.size w wx → Calls Try.prog 45 #[.pointer (some ⟨p, 0, none⟩), .pointer (some ⟨rp, 0, none⟩), .int .u64 (D : Nat)] wx fun y w' =>
      y = .returned (.int .i64 (if hasE (readyB (quietB R) D) L then (firstAt (readyB (quietB R) D) L : Int) else -1)) ∧ wx = w') := fun wx hb => rfirst_any (h.below hb) (hr.below hb) D
  obtain ⟨A, cap, _, hA, hrd⟩ := h.reads
  have hmost := h.most
  have HZ := Lib.hid zero_entry
  obtain ⟨g, hg⟩ : ∃ g, w.heap.size = g := ⟨_, rfl⟩
  have HG := Lib.hid hg
  generalize readyB (quietB R) D = rb at *
  cases hh : hasE rb L with
  | true =>
    rw [hh] at HF
    replace HF : Hid (∀ wx, Below w.heap.size w wx → Calls Try.prog 45 #[.pointer (some ⟨p, 0, none⟩), .pointer (some ⟨rp, 0, none⟩), .int .u64 (D : Nat)] wx fun y w' => y = .returned (.int .i64 (firstAt rb L : Nat)) ∧ wx = w') := HF
    have hat := head_at hh
    obtain ⟨i, hi⟩ : ∃ i, firstAt rb L = i := ⟨_, rfl⟩
    rw [hi] at HF hat
    have hil := (List.getElem?_eq_some_iff.1 hat).1
    obtain ⟨n, hn⟩ : ∃ n, L.length = n := ⟨_, rfl⟩
    rw [hn] at hil hrd hmost
    have hil' : (i : Int) < (n : Int) := by omega
    have h0 : ¬ (i : Int) < 0 := by omega
    have HRD := Lib.hid hrd
    have HAT := Lib.hid hat
    have HEB : Hid (∀ (w' : World) (g : Nat), w'.heap[g]? = some (.cells #[.int .i64 (headE rb L).line, .int .i64 (headE rb L).cl, .int .u64 ((headE rb L).r : Nat), .int .u64 ((headE rb L).d : Nat), .int .i64 (headE rb L).anti] 40 (0, 0)) → EBox w' g (headE rb L)) := fun w' g h => h
    obtain ⟨V, hV⟩ : ∃ V, V = (headE rb L).val := ⟨_, rfl⟩
    have HV := Lib.hid hV
    rw [← hV]
    generalize headE rb L = e at *
    clear h hr hh hi hat hrd hV hn hg hA
    go_enter Try.func30, Try.ntmps30
    go_wp2_with (first
      | ((with_reducible show wpList _ _ _ (⟨some 6, .alloc _, _, _, _, _⟩ :: _) _ _); refine wpList_alloc_var (o := ⟨some 6, _, _, _, _, _⟩) rfl 40 rfl g HG.out _ HZ.out ?_; intro w1 H1 B1; have HB1 : Hid (Below w.heap.size w w1) := HG.out.symm ▸ B1.out; have hc1 := (HRD.out w1 HB1.out).1; obtain ⟨b, off, rfl, _, c0, c1, c2, c3, c4⟩ := ((HRD.out w1 HB1.out).2).at_ HAT.out)
      | ((with_reducible show Calls _ _ _ _ _); refine (HF.out _ HB1.out).mono ?_; rintro y w2 ⟨rfl, rfl⟩)
      | ((with_reducible show wpList _ _ _ (⟨none, .store _ (.tmp 6) _, _, _, _, _⟩ :: _) _ _); refine wpList_store_whole (o := ⟨none, .store 40 (.tmp 6) (.tmp 22), _, _, _, _⟩) rfl _ _ _ rfl rfl g #[.int .i64 e.line, .int .i64 e.cl, .int .u64 (e.r : Nat), .int .u64 (e.d : Nat), .int .i64 e.anti] rfl rfl 40 _ H1.out size_entry rfl (ones5 _ _ _ _ _) ?_; intro w5 H5 B5)
      | fail)
    refine bodyPost_ret (results_e7 rfl rfl rfl (HEB.out _ _ H5.out)) rfl ⟨by rw [HV.out]; rfl, ?_⟩
    exact HB1.out.trans (B5.out.mono (Nat.le_of_eq HG.out))
  | false =>
    rw [hh] at HF
    replace HF : Hid (∀ wx, Below w.heap.size w wx → Calls Try.prog 45 #[.pointer (some ⟨p, 0, none⟩), .pointer (some ⟨rp, 0, none⟩), .int .u64 (D : Nat)] wx fun y w' => y = .returned (.int .i64 (-1)) ∧ wx = w') := HF
    rw [headE_none hh]
    have HEB : Hid (∀ (w' : World) (g : Nat), w'.heap[g]? = some (.cells #[.int .i64 0, .int .i64 0, .int .u64 0, .int .u64 0, .int .i64 0] 40 (0, 0)) → EBox w' g En.zero) := fun w' g h => h
    clear h hr hh hrd hg hA
    go_enter Try.func30, Try.ntmps30
    go_wp2_with (first
      | ((with_reducible show wpList _ _ _ (⟨some 6, .alloc _, _, _, _, _⟩ :: _) _ _); refine wpList_alloc_var (o := ⟨some 6, _, _, _, _, _⟩) rfl 40 rfl g HG.out _ HZ.out ?_; intro w1 H1 B1; have HB1 : Hid (Below w.heap.size w w1) := HG.out.symm ▸ B1.out)
      | ((with_reducible show Calls _ _ _ _ _); refine (HF.out _ HB1.out).mono ?_; rintro y w2 ⟨rfl, rfl⟩)
      | ((with_reducible show wpList _ _ _ (⟨none, .store _ (.tmp 6) _, _, _, _, _⟩ :: _) _ _); refine wpList_store_whole (o := ⟨none, .store 40 (.tmp 6) (.tmp 15), _, _, _, _⟩) rfl _ _ _ rfl rfl g #[.int .i64 0, .int .i64 0, .int .u64 0, .int .u64 0, .int .i64 0] rfl rfl 40 _ H1.out size_entry rfl (ones5 _ _ _ _ _) ?_; intro w5 H5 B5)
      | fail)
    refine bodyPost_ret (results_e7 rfl rfl rfl (HEB.out _ _ H5.out)) rfl ⟨rfl, ?_⟩
    exact HB1.out.trans (B5.out.mono (Nat.le_of_eq HG.out))
/-- A whole block written over: all others lie as they lay. -/
theorem wpList_store_only {P : Program} {ops : Array Oper} {rest : List Oper} {o : Oper} {a : Act} {w : World} {Q : Exit → Act → World → Prop} (hgd : o.guard = none) (ty : TypeId) (x y : Operand) (ho : o.op = .store ty x y) (hd : o.dst = none)
    (g : Nat) (cells : Array Value) (hx : a.eval x = .pointer (some ⟨g, 0, none⟩)) (hy : a.eval y = .agg cells)
    (t : TypeId) (old : Array Value) (hg : w.heap[g]? = some (.cells old t (0, 0))) (hi : (P.info? ty).map (·.size) = some cells.size) (hold : old.size = cells.size) (h1 : cells.all (·.oneCell') = true)
    (k : ∀ w', Hid (w'.heap[g]? = some (.cells cells t (0, 0))) → Hid (Turns g g w w') → wpList P ops Q rest a w') : wpList P ops Q (o :: rest) a w := by
  refine wpList_store_row hgd ty x y ho g cells hx hy t old hg hi hold h1 ?_
  rw [hd]
  exact k _ (setRow_heap w g _ _ t _ hg) ⟨rfl, rfl, rfl, by simp, fun k hk _ _ => setRow_other _ _ k _ hk⟩
/-- Two parts of a row joined anew. -/
theorem cutE (w : World) (b off i m cap : Nat) (l : List En) (hl : l.length = i + 1 + m) (hm : i + 1 + m ≤ 1000) (hcap : i + 1 + m ≤ cap) (hrow : RowE w (some ⟨b, off, none⟩) l) (A2 : Addr) (hA2 : (if cap = i + 1 then some (⟨b, off, none⟩ : Addr) else some ⟨b, off + (i + 1) * 5, none⟩) = some A2) :
    ∃ v1 w1 A3 cap3 w2, (Builtin.append_ #[27, 27] 27 #[.slice none 0 0, .slice (some ⟨b, off, none⟩) i cap]).run Try.prog w.drew = .ok v1 w1 ∧
      (Builtin.append_ #[27, 27] 27 #[v1, .slice (some A2) m (cap - (i + 1))]).run Try.prog w1 = .ok (.slice A3 (i + m) cap3) w2 ∧ Below w.heap.size w w1 ∧ PutE w w2 A3 (i + m) cap3 (l.eraseIdx i) := by
  have hdr : Below w.heap.size w w.drew := below_drewN (Below.refl _ _) 1
  have hd : RowE w (some A2) (l.drop (i + 1)) := by
    by_cases hc : cap = i + 1
    · rw [List.drop_eq_nil_of_le (by omega)]
      exact rowE_nil _ _
    · rw [if_neg hc] at hA2
      cases hA2
      exact hrow.drop (i + 1)
  obtain ⟨v1, w1, e1, o1, g1, _⟩ := run_appE w.drew w.heap.size (.slice none 0 0) [] (World.ownsRow_nil _ _ _ _) (some ⟨b, off, none⟩) i cap (l.take i) (by rw [List.length_take]; omega) ((hrow.take i).below hdr) (by intro h; cases h) (by simp; omega) (Nat.le_refl _)
  rw [List.nil_append] at o1
  have b1 : Below w.heap.size w w1 := hdr.grown g1 (Nat.le_refl _) (fun k hk => by simp [Value.ownBlock] at hk)
  obtain ⟨v2, w2, e2, o2, g2, _⟩ := run_appE w1 w.heap.size v1 (l.take i) o1 (some A2) m (cap - (i + 1)) (l.drop (i + 1)) (by rw [List.length_drop]; omega) (hd.below b1) (by intro h; cases h) (by rw [List.length_take]; omega) b1.size
  rw [← List.eraseIdx_eq_take_drop_succ] at o2
  have hlen : (l.eraseIdx i).length = i + m := by rw [List.length_eraseIdx, if_pos (by omega)]; omega
  obtain ⟨_, A3, cap3, rfl, _⟩ := rowE_of_own o2 (by omega)
  rw [hlen] at o2 e2
  exact ⟨v1, w1, A3, cap3, w2, e1, e2, b1, o2, b1.grown g2 b1.size (fun k hk => own_ge o1 k hk)⟩
set_option maxHeartbeats 1600000 in
set_option maxRecDepth 100000 in
theorem rpop_not {w : World} {p lo q rp rq : Nat} {L : List En} {R : List Nat} {now : Nat} (h : RbP w p lo q L) (hr : RdR w rp rq R now) (D : Nat) (hh : hasE (readyB (quietB R) D) L = false) :
    Calls Try.prog 29 #[.pointer (some ⟨p, 0, none⟩), .pointer (some ⟨rp, 0, none⟩), .int .u64 (D : Nat)] w fun y w' => y = .returned (.tuple #[En.zero.val, .bool false]) ∧ Below w.heap.size w w' := by
  have HF : Hid (∀ wx, Below w.heap.size w wx → Calls Try.prog 45 #[.pointer (some ⟨p, 0, none⟩), .pointer (some ⟨rp, 0, none⟩), .int .u64 (D : Nat)] wx fun y w' =>
      y = .returned (.int .i64 (if hasE (readyB (quietB R) D) L then (firstAt (readyB (quietB R) D) L : Int) else -1)) ∧ wx = w') := fun wx hb => rfirst_any (h.below hb) (hr.below hb) D
  have HZ := Lib.hid zero_entry
  obtain ⟨g, hg⟩ : ∃ g, w.heap.size = g := ⟨_, rfl⟩
  have HG := Lib.hid hg
  rw [hh] at HF
  replace HF : Hid (∀ wx, Below w.heap.size w wx → Calls Try.prog 45 #[.pointer (some ⟨p, 0, none⟩), .pointer (some ⟨rp, 0, none⟩), .int .u64 (D : Nat)] wx fun y w' => y = .returned (.int .i64 (-1)) ∧ wx = w') := HF
  have HEB : Hid (∀ (w' : World) (g : Nat), w'.heap[g]? = some (.cells #[.int .i64 0, .int .i64 0, .int .u64 0, .int .u64 0, .int .i64 0] 40 (0, 0)) → EBox w' g En.zero) := fun w' g h => h
  clear h hr hh hg
  go_enter Try.func29, Try.ntmps29
  go_wp2_with (first
    | ((with_reducible show wpList _ _ _ (⟨some 6, .alloc _, _, _, _, _⟩ :: _) _ _); refine wpList_alloc_var (o := ⟨some 6, _, _, _, _, _⟩) rfl 40 rfl g HG.out _ HZ.out ?_; intro w1 H1 B1; have HB1 : Hid (Below w.heap.size w w1) := HG.out.symm ▸ B1.out)
    | ((with_reducible show Calls _ _ _ _ _); refine (HF.out _ HB1.out).mono ?_; rintro y w2 ⟨rfl, rfl⟩)
    | ((with_reducible show wpList _ _ _ (⟨none, .store _ (.tmp 6) _, _, _, _, _⟩ :: _) _ _); refine wpList_store_whole (o := ⟨none, .store 40 (.tmp 6) (.tmp 16), _, _, _, _⟩) rfl _ _ _ rfl rfl g #[.int .i64 0, .int .i64 0, .int .u64 0, .int .u64 0, .int .i64 0] rfl rfl 40 _ H1.out size_entry rfl (ones5 _ _ _ _ _) ?_; intro w5 H5 B5)
    | fail)
  refine bodyPost_ret (results_e7 rfl rfl rfl (HEB.out _ _ H5.out)) rfl ⟨rfl, ?_⟩
  exact HB1.out.trans (B5.out.mono (Nat.le_of_eq HG.out))
/-- What the appends of Pop are asked, and what the store behind them leaves. -/
theorem rpop_row {w : World} {p lo q : Nat} {L : List En} (h : RbP w p lo q L) (hlo : lo ≤ w.heap.size) (rb : En → Bool) (hh : hasE rb L = true) :
    ∃ i m b off cap A2, i = firstAt rb L ∧ L.length = i + 1 + m ∧ i + 1 + m ≤ cap ∧ (if cap = i + 1 then some (⟨b, off, none⟩ : Addr) else some ⟨b, off + (i + 1) * 5, none⟩) = some A2 ∧ ∀ wx, Below w.heap.size w wx → wx.cell? ⟨p, 0, none⟩ = some (.slice (some ⟨b, off, none⟩) (i + 1 + m) cap) ∧ RowE wx (some ⟨b, off, none⟩) L ∧
      ∃ v1 w1 A3 cap3 w2, (Builtin.append_ #[27, 27] 27 #[.slice none 0 0, .slice (some ⟨b, off, none⟩) i cap]).run Try.prog wx.drew = .ok v1 w1 ∧
      (Builtin.append_ #[27, 27] 27 #[v1, .slice (some A2) m (cap - (i + 1))]).run Try.prog w1 = .ok (.slice A3 (i + m) cap3) w2 ∧ w1.cell? ⟨p, 0, none⟩ = some (.slice (some ⟨b, off, none⟩) (i + 1 + m) cap) ∧
      w2.cell? ⟨p, 0, none⟩ = some (.slice (some ⟨b, off, none⟩) (i + 1 + m) cap) ∧ w2.frozen? ⟨p, 0, none⟩ = false ∧ (∃ q', RbP (w2.setCell ⟨p, 0, none⟩ (.slice A3 (i + m) cap3)) p lo q' (popE rb L) ∧ Turns p p wx (w2.setCell ⟨p, 0, none⟩ (.slice A3 (i + m) cap3)) ∧ (q' = p ∨ wx.heap.size ≤ q')) ∧
      (∀ k, k < wx.heap.size → k ≠ p → (w2.setCell ⟨p, 0, none⟩ (.slice A3 (i + m) cap3)).heap[k]? = wx.heap[k]?) := by
  have hlt : firstAt rb L < L.length := by simpa [hasE] using hh
  have hpop : popE rb L = L.eraseIdx (firstAt rb L) := by unfold popE; rw [if_pos hh]
  have hmost := h.most
  obtain ⟨A, cap, hcap, hA, hrd⟩ := h.reads
  obtain ⟨i, hi⟩ : ∃ i, i = firstAt rb L := ⟨_, rfl⟩
  rw [← hi] at hlt hpop
  obtain ⟨m, hL⟩ : ∃ m, L.length = i + 1 + m := ⟨L.length - (i + 1), by omega⟩
  obtain ⟨b, off, rfl, _⟩ := (hrd w (Below.refl _ _)).2.2 (by omega)
  rw [hL] at hrd hcap hmost
  obtain ⟨A2, hA2⟩ : ∃ A2 : Addr, (if cap = i + 1 then some (⟨b, off, none⟩ : Addr) else some ⟨b, off + (i + 1) * 5, none⟩) = some A2 := by
    by_cases hc : cap = i + 1
    · exact ⟨_, by rw [if_pos hc]⟩
    · exact ⟨_, by rw [if_neg hc]⟩
  refine ⟨i, m, b, off, cap, A2, hi, hL, hcap, hA2, fun wx hb => ⟨(hrd wx hb).1, (hrd wx hb).2, ?_⟩⟩
  obtain ⟨v1, w1, A3, cap3, w2, e1, e2, b1, p1⟩ := cutE wx b off i m cap L hL (by omega) hcap (hrd wx hb).2 A2 hA2
  have hle := hb.size
  have hlen : (popE rb L).length = i + m := by rw [hpop, List.length_eraseIdx, if_pos (by omega)]; omega
  have hb2 : Below w.heap.size w w2 := hb.trans (p1.bel.mono hle)
  obtain ⟨q', r1, r2, r3⟩ := Bg.fresh (L' := popE rb L) (h.below hb) p1.bel (by rw [hlen, hpop]; exact p1.own) (by omega) (Nat.le_trans hlo hle)
  refine ⟨v1, w1, A3, cap3, w2, e1, e2, (hrd w1 (hb.trans (b1.mono hle))).1, (hrd w2 hb2).1, (h.below hb2).frozen, ⟨q', r1, r2, r3⟩, fun k hk h1 => ?_⟩
  rw [Below.heap_setCell _ _ _ _ (by simpa using h1)]
  exact p1.bel.block k hk
set_option maxHeartbeats 1600000 in
set_option maxRecDepth 100000 in
theorem rpop_yes {w : World} {p lo q rp rq : Nat} {L : List En} {R : List Nat} {now : Nat} (h : RbP w p lo q L) (hlo : lo ≤ w.heap.size) (hr : RdR w rp rq R now) (D : Nat) (hh : hasE (readyB (quietB R) D) L = true) :
    Calls Try.prog 29 #[.pointer (some ⟨p, 0, none⟩), .pointer (some ⟨rp, 0, none⟩), .int .u64 (D : Nat)] w fun y w' => y = .returned (.tuple #[(headE (readyB (quietB R) D) L).val, .bool true]) ∧ RbTo w p lo q (popE (readyB (quietB R) D) L) w' := by
  have HF : Hid (∀ wx, Below w.heap.size w wx → Calls Try.prog 45 #[.pointer (some ⟨p, 0, none⟩), .pointer (some ⟨rp, 0, none⟩), .int .u64 (D : Nat)] wx fun y w' =>
      y = .returned (.int .i64 (if hasE (readyB (quietB R) D) L then (firstAt (readyB (quietB R) D) L : Int) else -1)) ∧ wx = w') := fun wx hb => rfirst_any (h.below hb) (hr.below hb) D
  have hmost := h.most
  have HLP := Lib.hid h.lt_p
  have HZ := Lib.hid zero_entry
  obtain ⟨g, hg⟩ : ∃ g, w.heap.size = g := ⟨_, rfl⟩
  have HG := Lib.hid hg
  rw [hg] at HLP
  generalize readyB (quietB R) D = rb at *
  rw [hh] at HF
  obtain ⟨i, m, b, off, cap, A2, hi, hL, hcap, hA2, hrow⟩ := rpop_row h hlo rb hh
  have hat := head_at hh
  rw [← hi] at hat
  replace HF : Hid (∀ wx, Below w.heap.size w wx → Calls Try.prog 45 #[.pointer (some ⟨p, 0, none⟩), .pointer (some ⟨rp, 0, none⟩), .int .u64 (D : Nat)] wx fun y w' => y = .returned (.int .i64 i) ∧ wx = w') := by
    rw [hi]
    exact HF
  rw [hL] at hmost
  have HAT := Lib.hid hat
  have HROW := Lib.hid hrow
  have hil : (i : Int) < ((i + 1 + m : Nat) : Int) := by omega
  have hic : i ≤ cap := by omega
  have hjc : i + 1 ≤ cap := by omega
  have hb1 : (0 : Int) ≤ (i : Int) + 1 := by omega
  have hb2 : (i : Int) + 1 ≤ (i : Int) + 1 + (m : Int) := by omega
  have h0 : ¬ (i : Int) < 0 := by omega
  have hwr : IntKind.i64.wrap ((i : Int) + 1) = (i : Int) + 1 := by
    simp [IntKind.wrap, IntKind.signed, IntKind.bits]
    omega
  have HEB : Hid (∀ (w' : World) (g : Nat), w'.heap[g]? = some (.cells #[.int .i64 (headE rb L).line, .int .i64 (headE rb L).cl, .int .u64 ((headE rb L).r : Nat), .int .u64 ((headE rb L).d : Nat), .int .i64 (headE rb L).anti] 40 (0, 0)) → EBox w' g (headE rb L)) := fun w' g h => h
  obtain ⟨V, hV⟩ : ∃ V, V = (headE rb L).val := ⟨_, rfl⟩
  have HV := Lib.hid hV
  rw [← hV]
  generalize headE rb L = e at *
  generalize popE rb L = L' at *
  clear h hr hh hi hat hrow hV hL hg hlo
  go_enter Try.func29, Try.ntmps29
  go_wp2_with (first
    | ((with_reducible show wpList _ _ _ (⟨some 6, .alloc _, _, _, _, _⟩ :: _) _ _); refine wpList_alloc_var (o := ⟨some 6, _, _, _, _, _⟩) rfl 40 rfl g HG.out _ HZ.out ?_; intro w1 H1 B1; have HB1 : Hid (Below w.heap.size w w1) := HG.out.symm ▸ B1.out; obtain ⟨g2, hg2⟩ : ∃ g2, w1.heap.size = g2 := ⟨_, rfl⟩; have HG2 := Lib.hid hg2; have HL2 : Hid (g < g2) := (hg2 ▸ lt_of_heap H1.out); obtain ⟨hc1, hr1, _⟩ := HROW.out w1 HB1.out; obtain ⟨b', off', hbo, _, c0, c1, c2, c3, c4⟩ := hr1.at_ HAT.out; cases hbo; clear hg2 hr1)
    | ((with_reducible show Calls _ _ _ _ _); refine (HF.out _ HB1.out).mono ?_; rintro y w2 ⟨rfl, rfl⟩)
    | ((with_reducible show wpList _ _ _ (⟨some 9, .alloc _, _, _, _, _⟩ :: _) _ _); refine wpList_alloc_var (o := ⟨some 9, _, _, _, _, _⟩) rfl 40 rfl g2 HG2.out _ HZ.out ?_; intro w3 H3 B3)
    | ((with_reducible show wpList _ _ _ (⟨none, .store _ (.tmp 9) _, _, _, _, _⟩ :: _) _ _); refine wpList_store_whole (o := ⟨none, .store 40 (.tmp 9) (.tmp 23), _, _, _, _⟩) rfl _ _ _ rfl rfl g2 #[.int .i64 e.line, .int .i64 e.cl, .int .u64 (e.r : Nat), .int .u64 (e.d : Nat), .int .i64 e.anti] rfl rfl 40 _ H3.out size_entry rfl (ones5 _ _ _ _ _) ?_; intro w4 H4 B4; have HB4 : Hid (Below w.heap.size w w4) := HB1.out.trans ((B3.out.trans B4.out).mono (by rw [HG.out]; exact Nat.le_of_lt HL2.out)))
    | fail)
  obtain ⟨hc4, _, v1, x1, A3, cap3, x2, e1, e2, k1, k2, f2, hrb, hk⟩ := HROW.out w4 HB4.out
  obtain ⟨w7, hw7⟩ : ∃ w7, x2.setCell ⟨p, 0, none⟩ (.slice A3 (i + m) cap3) = w7 := ⟨_, rfl⟩
  rw [hw7] at hrb hk
  have HE2 := Lib.hid ((hk g2 (lt_of_heap H4.out) (Nat.ne_of_gt (Nat.lt_trans HLP.out HL2.out))).trans H4.out)
  have HE1 := Lib.hid ((hk g (Nat.lt_trans HL2.out (lt_of_heap H4.out)) (Nat.ne_of_gt HLP.out)).trans ((B4.out.block g HL2.out).trans ((B3.out.block g HL2.out).trans H1.out)))
  have HSZ4 : Hid (g < w4.heap.size) := Nat.lt_trans HL2.out (lt_of_heap H4.out)
  obtain ⟨c0, c1, c2, c3, c4⟩ := cells5 HE2.out
  have HRB := Lib.hid hrb
  have E1 := Lib.hid e1
  have E2 := Lib.hid e2
  clear e1 e2 hrb hk
  go_region_law (first
    | (refine step_app9 rfl (.const (.slice none 0 0)) (.tmp 30) 27 rfl rfl (by simp [Act.eval, Act.put]) E1.out ?_)
    | (refine step_app9 rfl (.tmp 31) (.tmp 38) 27 rfl (by simp [Act.eval, Act.put]) (by simp [Act.eval, Act.put]) E2.out ?_))
  all_goals
    go_wp2_with (first
      | ((with_reducible show wpList _ _ _ (⟨none, .store _ (.tmp 6) _, _, _, _, _⟩ :: _) _ _); refine wpList_store_only (o := ⟨none, .store 40 (.tmp 6) (.tmp 42), _, _, _, _⟩) rfl _ _ _ rfl rfl g #[.int .i64 e.line, .int .i64 e.cl, .int .u64 (e.r : Nat), .int .u64 (e.d : Nat), .int .i64 e.anti] rfl rfl 40 _ HE1.out size_entry rfl (ones5 _ _ _ _ _) ?_; intro w9 H9 B9)
      | fail)
    refine bodyPost_ret (results_e7 rfl rfl rfl (HEB.out _ _ H9.out)) rfl ⟨by rw [HV.out]; rfl, ?_⟩
    obtain ⟨q', r1, r2, r3⟩ := HRB.out
    have hgg := HG.out
    have hlp := HLP.out
    have hs4 := HSZ4.out
    have hs7 := r2.size
    have hsz := HB4.out.size
    have hp9 := B9.out.block p (by omega) (by omega) (by omega)
    have hlq := r1.lt_q
    refine ⟨q', r1.same hp9 ?_, ⟨B9.out.os.trans (r2.os.trans HB4.out.os), B9.out.tape.trans (r2.tape.trans HB4.out.tape), B9.out.output.trans (r2.output.trans HB4.out.output), Nat.le_trans hsz (Nat.le_trans hs7 B9.out.size), fun k h1 h2 hk => (B9.out.block k (by omega) (by omega) (by omega)).trans ((r2.block k h1 h2 (by omega)).trans (HB4.out.block k hk))⟩, ?_⟩
    · rcases r3 with e | e
      · rw [e]; exact hp9
      · exact B9.out.block q' (by omega) (by omega) hlq
    · rcases r3 with e | e
      · exact .inl e
      · exact .inr (.inr (by omega))
theorem rpop_any {w : World} {p lo q rp rq : Nat} {L : List En} {R : List Nat} {now : Nat} (h : RbP w p lo q L) (hlo : lo ≤ w.heap.size) (hr : RdR w rp rq R now) (D : Nat) :
    Calls Try.prog 29 #[.pointer (some ⟨p, 0, none⟩), .pointer (some ⟨rp, 0, none⟩), .int .u64 (D : Nat)] w fun y w' => y = .returned (.tuple #[(headE (readyB (quietB R) D) L).val, .bool (hasE (readyB (quietB R) D) L)]) ∧ RbTo w p lo q (popE (readyB (quietB R) D) L) w' := by
  cases hh : hasE (readyB (quietB R) D) L with
  | true => exact rpop_yes h hlo hr D hh
  | false =>
    have hp : popE (readyB (quietB R) D) L = L := by unfold popE; rw [hh]; rfl
    rw [hp, headE_none hh]
    refine (rpop_not h hr D hh).mono ?_
    rintro y w' ⟨h1, h2⟩
    exact ⟨h1, rb_keep h h2⟩

end Go.Proofs.Ytfonjkbdonbjdaa
