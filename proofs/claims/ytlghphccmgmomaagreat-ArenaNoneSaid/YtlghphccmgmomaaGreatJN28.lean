/-
  Proved here, joined: FiB14, StepCall, FiC14, FiD14
  Conditions: as each part says.
-/
import Derived.Test.YtlghphccmgmomaaGreatJN27
import Derived.Test.YtlghphccmgmomaaGreatJN26
import Derived.Deep.RegionHeld3
import Derived.Test.YtlghphccmgmomaaGreatJN1
import Derived.Deep.RegionLaw
import Derived.Deep.RegionWith
import Derived.Lib.AppendZerosOnto
import Derived.Shelf.Abstract

/-
  Proved here: what the ring's all answers.
  Conditions: at most 4,095 places.
-/
namespace Go.Proofs.YtlghphccmgmomaaGreat
open Go Go.RowKit
set_option maxRecDepth 100000

theorem madeL_list (n : Nat) : (madeCells (Value.agg #[.string ⟨#[]⟩, .int .u64 0, .int .u64 0, .int .i64 0, .int .i64 0]).cells (n * 5)).toList = encL (List.replicate n Ln.zero) := by
  have hz : (Value.agg #[.string ⟨#[]⟩, .int .u64 0, .int .u64 0, .int .i64 0, .int .i64 0]).cells = #[.string ⟨#[]⟩, .int .u64 0, .int .u64 0, .int .i64 0, .int .i64 0] := by kernel_rfl
  rw [hz]
  apply List.ext_getElem?
  intro j
  rcases Nat.lt_or_ge j (n * 5) with hj | hj
  · have h1 := encL_at (List.replicate n Ln.zero) [] (i := j / 5) (e := Ln.zero) (by rw [List.getElem?_replicate, if_pos (by omega)]) (j % 5) (by omega)
    rw [List.append_nil, show j / 5 * 5 + j % 5 = j by omega] at h1
    rw [h1]
    have hm : j % 5 < 5 := Nat.mod_lt _ (by omega)
    simp only [madeCells, Array.getElem?_toList, Array.getElem?_map, Array.getElem?_range, if_pos hj, Option.map_some]
    rw [show (#[Value.string { data := #[] }, Value.int IntKind.u64 0, Value.int IntKind.u64 0, Value.int IntKind.i64 0, Value.int IntKind.i64 0] : Array Value).size = 5 from rfl]
    generalize j % 5 = r at *
    match r, hm with
    | 0, _ => simp [Ln.cells, Ln.zero, Ln.str]
    | 1, _ => simp [Ln.cells, Ln.zero]
    | 2, _ => simp [Ln.cells, Ln.zero]
    | 3, _ => simp [Ln.cells, Ln.zero]
    | 4, _ => simp [Ln.cells, Ln.zero]
  · rw [List.getElem?_eq_none (by simp [madeCells]; exact hj), List.getElem?_eq_none (by rw [encL_len, List.length_replicate]; exact hj)]
/-- A new row of n zero links. -/
theorem madeL (w : World) (n : Nat) (hn : n ≤ 1048576) : ∃ w1, (Instr.makeSlice 104 (.int .i64 (n : Int)) (.int .i64 (n : Int))).run Tryz.prog w = .ok (.slice (some ⟨w.heap.size, 0, none⟩) n n) w1 ∧
    w1.ownsRow w.heap.size 29 5 (.slice (some ⟨w.heap.size, 0, none⟩) n n) n (encL (List.replicate n Ln.zero)) ∧ Below w.heap.size w w1 := by
  obtain ⟨i, hi, hz, hs, hy⟩ := link_info'
  obtain ⟨w1, h1, h2, h3⟩ := run_make_full (P := Tryz.prog) w w.heap.size 104 29 i _ 5 Tryz.underlying104 hi hz hs .i64 .i64 n (by rw [hy]; omega) (by unfold maxLen; omega) (Nat.le_refl _)
  rw [madeL_list] at h2
  exact ⟨w1, h1, h2, (Below.refl _ _).grown h3 (Nat.le_refl _) (fun k e => by cases e)⟩
/-- What All has told of the links L behind i rounds. -/
def outA (L : List Ln) (i : Nat) : List Ln := L.take i ++ List.replicate (L.length - i) Ln.zero
theorem outA_len (L : List Ln) {i : Nat} (h : i ≤ L.length) : (outA L i).length = L.length := by simp [outA]; omega
theorem outA_end (L : List Ln) : outA L L.length = L := by simp [outA]
theorem outA_set (L : List Ln) {i : Nat} {x : Ln} (h : L[i]? = some x) : (outA L i).set i x = outA L (i + 1) := by
  obtain ⟨hi, rfl⟩ := List.getElem?_eq_some_iff.1 h
  unfold outA
  rw [List.set_append_right _ _ (by simp; omega), show L.length - i = (L.length - (i + 1)) + 1 by omega, List.replicate_succ]
  simp only [List.length_take, Nat.min_eq_left (Nat.le_of_lt hi), Nat.sub_self, List.set_cons_zero]
  have e : L.take (i + 1) = L.take i ++ [L[i]] := by rw [List.take_add_one, List.getElem?_eq_getElem hi]; rfl
  rw [e, List.append_assoc]
  rfl
/-- What the ring's all leaves. -/
def AllN (L : List Ln) (w : World) (e : Ending) (w' : World) : Prop := ∃ g, e = .returned (.slice (some ⟨g, 0, none⟩) L.length L.length) ∧ w'.ownsRow w.heap.size 29 5 (.slice (some ⟨g, 0, none⟩) L.length L.length) L.length (encL L) ∧ Below w.heap.size w w'
set_option maxHeartbeats 3200000 in
set_option maxRecDepth 100000 in
theorem rall_any {w : World} {p f : Nat} {v : Value} {P L : List Ln} (h : Fi w p v f P L) : Calls Tryz.prog 82 #[.pointer (some ⟨p, 0, none⟩)] w (AllN L w) := by
  obtain ⟨g, hg⟩ : ∃ g, w.heap.size = g := ⟨_, rfl⟩
  obtain ⟨n, hn⟩ : ∃ n, L.length = n := ⟨_, rfl⟩
  have hnP : n ≤ P.length := by have := h.ring.fits; omega
  have hn5 : n ≤ 4095 := Nat.le_trans hnP h.small
  obtain ⟨w1, hmk, ho1, hb1⟩ := madeL w n (by omega)
  rw [hg] at hmk ho1 hb1
  obtain ⟨A, cap, rfl, _, _⟩ := h.reads
  obtain ⟨m, hm⟩ : ∃ m, P.length = m := ⟨_, rfl⟩
  obtain ⟨_, _, c2⟩ := h.cells
  rw [hn] at c2
  rw [hm] at h hnP
  have HF : Hid (∀ w', Below g w w' → Fi w' p (.slice A m cap) f P L) := fun w' hb => h.below (hg.symm ▸ hb)
  have HPG : Hid (p < g) := hg ▸ h.lt (.inl rfl)
  have HM := Lib.hid hm
  have HN := Lib.hid hn
  have HO1 : Hid (w1.ownsRow g 29 5 (.slice (some ⟨g, 0, none⟩) n n) n (encL (outA L 0))) := by
    show World.ownsRow _ _ _ _ _ _ _
    have : outA L 0 = List.replicate n Ln.zero := by simp [outA, hn]
    rw [this]
    exact ho1
  have HB1 := Lib.hid hb1
  have HEND : Hid (∀ w', w'.ownsRow g 29 5 (.slice (some ⟨g, 0, none⟩) n n) n (encL L) → Below g w w' → AllN L w (.returned (.slice (some ⟨g, 0, none⟩) n n)) w') := fun w' h1 h2 => ⟨g, by rw [hn], by rw [hn, hg]; exact h1, by rw [hg]; exact h2⟩
  have HM5 : Hid (m ≤ 4095) := hm ▸ h.small
  have HFL : Hid (0 < m → f < m) := fun h0 => hm ▸ h.ring.first_lt (by omega)
  have HAT := Lib.hid h.ring.at_
  have HBLT : Hid (∀ x, A = some x → x.block < g) := fun x hx => hg ▸ h.lt (.inr (by rw [hx]; rfl))
  obtain ⟨R, hR⟩ : ∃ R, AllN L w = R := ⟨_, rfl⟩
  rw [hR] at HEND ⊢
  have HOE := Lib.hid (outA_end L)
  have HOS := Lib.hid (fun i x => @outA_set L i x)
  have HOL := Lib.hid (fun i => @outA_len L i)
  generalize outA L = O at *
  clear h hg hm hb1 ho1 hR
  go_enter Tryz.func82, Tryz.ntmps82
  go_wp2
  go_loopg [12, 4] n (fun gk s12 s4 wx => ∃ (i : Nat) (V : Value), i + gk = n ∧ s12 = .int .i64 i ∧ V = s4 ∧ Hid (wx.ownsRow g 29 5 (.slice (some ⟨g, 0, none⟩) n n) n (encL (O i))) ∧ Hid (Below g w wx))
  case atStart => exact ⟨0, _, by omega, rfl, rfl, HO1, HB1⟩
  case round =>
    obtain ⟨i, V, hin, rfl, rfl, HO, HB⟩ := hrel
    cases gk with
    | zero =>
      obtain rfl : i = n := by omega
      have hii : ¬ (i : Int) < (i : Int) := by omega
      go_wp2
      exact HEND.out _ (by have h1 := HO.out; rw [← HN.out, HOE.out] at h1; rw [← HN.out]; exact h1) HB.out
    | succ gk =>
      have hii : (i : Int) < (n : Int) := by omega
      have hFw := HF.out wr HB.out
      obtain ⟨c0, c1, _⟩ := hFw.cells
      have hlt : i < L.length := by have := HN.out; omega
      have hx := HAT.out i _ (List.getElem?_eq_getElem hlt)
      have hxL := List.getElem?_eq_getElem hlt
      generalize L[i] = x at *
      rw [HM.out] at hx
      obtain ⟨r, hr⟩ : ∃ r, (f + i) % m = r := ⟨_, rfl⟩
      have hm0 : 0 < m := by omega
      have hrm : r < m := by rw [← hr]; exact Nat.mod_lt _ hm0
      rw [hr] at hx
      have HC := Lib.hid (place_of (w := wr.drew) (i := i) c0 c1 hm0 HM5.out (HFL.out hm0) (by omega))
      rw [hr] at HC
      have c0d : wr.drew.cell? ⟨p, 0, none⟩ = some (.slice A m cap) := c0
      have hri : (r : Int) < (m : Int) := by omega
      have hrd := hFw.reads
      rw [HM.out] at hrd
      obtain ⟨A2, cap2, e2, _, hrow⟩ := hrd
      cases e2
      obtain ⟨b, off, rfl, hbg, d0, d1, d2, d3, d4⟩ := hrow.at_ hx
      have hOi : i < (O i).length := by rw [HOL.out i (by omega)]; exact hlt
      have hin5 : i * 5 + 4 < n * 5 := by omega
      have HCE : Hid (∀ w2 : World, w2.heap[g]? = wr.heap[g]? → ∀ j, j < 5 → ∃ u, w2.cell? ⟨g, i * 5 + j, none⟩ = some u) := fun w2 hw2 j hj => by
        rw [World.cell?_of_block (w := wr) (a := ⟨g, i * 5 + j, none⟩) hw2, HO.out.cellAt (i * 5 + j) (by omega)]
        have : i * 5 + j < (encL (O i)).length := by rw [encL_len]; omega
        exact ⟨_, List.getElem?_eq_getElem this⟩
      have HFR : Hid (∀ w2 : World, w2.ownsRow g 29 5 (.slice (some ⟨g, 0, none⟩) n n) n (encL (O i)) → ∀ j, w2.frozen? ⟨g, j, none⟩ = false) := fun w2 h2 j => h2.frozenAt j
      have HGW : Hid (g < wr.heap.size) := by have := (HO.out.lt g rfl).2; exact this
      have HPW : Hid (p < wr.heap.size) := Nat.lt_of_lt_of_le HPG.out (Nat.le_of_lt HGW.out)
      have HS : Hid (∀ w2 : World, w2.ownsRow g 29 5 (.slice (some ⟨g, 0, none⟩) n n) n (encL (O i)) → (((((w2.setCell ⟨g, i * 5, none⟩ (.string x.str)).setCell ⟨g, i * 5 + 1, none⟩ (.int .u64 (x.id : Nat))).setCell ⟨g, i * 5 + 2, none⟩ (.int .u64 (x.ver : Nat))).setCell ⟨g, i * 5 + 3, none⟩ (.int .i64 x.line)).setCell ⟨g, i * 5 + 4, none⟩ (.int .i64 x.cl)).ownsRow g 29 5 (.slice (some ⟨g, 0, none⟩) n n) n (encL (O (i + 1)))) := fun w2 h2 => by
        have s0 := h2.stored (i * 5) (.string x.str)
        have s1 := s0.1.stored (i * 5 + 1) (.int .u64 (x.id : Nat))
        have s2 := s1.1.stored (i * 5 + 2) (.int .u64 (x.ver : Nat))
        have s3 := s2.1.stored (i * 5 + 3) (.int .i64 x.line)
        have s4 := s3.1.stored (i * 5 + 4) (.int .i64 x.cl)
        have e := s4.1
        rwa [encL_set (O i) _ x hOi, HOS.out i x hxL] at e
      have HBG : Hid (b < wr.heap.size) := hbg
      have hgp : g ≠ p := by have := HPG.out; omega
      have hgb' : g ≠ b := by have h1 := HBLT.out _ rfl; have h2 : b < g := h1; omega
      clear hFw hx hxL hrow hr hOi hbg hlt
      generalize x.str = x0 at *
      generalize (x.id : Int) = x1 at *
      generalize (x.ver : Int) = x2 at *
      generalize x.line = x3 at *
      generalize x.cl = x4 at *
      go_wp2
      go_region_held3 (fun w' => w'.cell? ⟨p, 0, none⟩ = some (.slice (some ⟨b, off, none⟩) m cap) ∧ w'.cell? ⟨b, off + r * 5, none⟩ = some (.string x0) ∧ w'.cell? ⟨b, off + r * 5 + 1, none⟩ = some (.int .u64 x1) ∧ w'.cell? ⟨b, off + r * 5 + 2, none⟩ = some (.int .u64 x2) ∧ w'.cell? ⟨b, off + r * 5 + 3, none⟩ = some (.int .i64 x3) ∧ w'.cell? ⟨b, off + r * 5 + 4, none⟩ = some (.int .i64 x4)) (go_keep)
        (first
          | (go_at_call 125; refine HC.out.mono ?_; rintro e w2 ⟨rfl, k, hk⟩; have hb2 : Below wr.heap.size wr w2 := (by rw [hk]; exact below_drewN ((Below.refl _ _).drew) k); clear hk; have e1 : w2.cell? ⟨p, 0, none⟩ = some (.slice (some ⟨b, off, none⟩) m cap) := (hb2.cell (p := ⟨p, 0, none⟩) HPW.out).trans c0; have HB2 := Lib.hid hb2; have hO2 := own_same HO.out (fun k hk => by cases hk; exact hb2.block g HGW.out); have HO2 := Lib.hid hO2; have s0 := (hb2.cell (p := ⟨b, off + r * 5, none⟩) HBG.out).trans d0; have s1 := (hb2.cell (p := ⟨b, off + r * 5 + 1, none⟩) HBG.out).trans d1; have s2 := (hb2.cell (p := ⟨b, off + r * 5 + 2, none⟩) HBG.out).trans d2; have s3 := (hb2.cell (p := ⟨b, off + r * 5 + 3, none⟩) HBG.out).trans d3; have s4 := (hb2.cell (p := ⟨b, off + r * 5 + 4, none⟩) HBG.out).trans d4; have hgb := hb2.block g HGW.out; obtain ⟨u0, t0⟩ := HCE.out w2 hgb 0 (by omega); obtain ⟨u1, t1⟩ := HCE.out w2 hgb 1 (by omega); obtain ⟨u2, t2⟩ := HCE.out w2 hgb 2 (by omega); obtain ⟨u3, t3⟩ := HCE.out w2 hgb 3 (by omega); obtain ⟨u4, t4⟩ := HCE.out w2 hgb 4 (by omega); have f0 := HFR.out w2 hO2 (i * 5); have f1 := HFR.out w2 hO2 (i * 5 + 1); have f2 := HFR.out w2 hO2 (i * 5 + 2); have f3 := HFR.out w2 hO2 (i * 5 + 3); have f4 := HFR.out w2 hO2 (i * 5 + 4); rw [Nat.add_zero] at t0; clear hb2 hgb hO2))
      go_wp2
      go_roundg gk
      case measure => omega
      case rel => exact ⟨i + 1, _, by omega, by go_num, rfl, HS.out _ HO2.out, below_set5 (HB.out.trans (HB2.out.mono (Nat.le_of_lt HGW.out))) (Nat.le_refl _) _ _ _ _ _ _⟩

end Go.Proofs.YtlghphccmgmomaaGreat

/-
  Proved here: a call of a Go function, an append of made places, at a step of a region that draws its order.
  Conditions: none.
-/
namespace Go.Proofs.YtlghphccmgmomaaGreat
open Go Go.RowKit
set_option maxRecDepth 100000

/-- At a step of a region that draws its order: a call of a Go function by its contract. -/
theorem step_callR {P : Program} {ops : Array Oper} {o : Oper} {a : Act} {K : Act → World → Prop} {Q : Exit → Act → World → Prop} {E : Prop} (hgd : o.guard = none) (n : FuncId) (args : Array Operand) (tys : Array TypeId)
    (ho : o.op = .call { callee := .value (.func n), args := args, argTypes := tys }) {w : World} (vs : Array Value) (hv : args.map a.eval = vs) (he : ∀ args w, (callFunc n args).run P w = .ok (.enter n args) w) {R : Ending → World → Prop} (hc : Calls P n vs w R)
    (h : ∀ e w', R e w' → ∃ v, e = .returned v ∧ K (a.put o.dst v) w') : if Region.wanted o (yielded ops a.tmps) = true then Oper.wp P o a w K Q else E := by
  have hw : Region.wanted o (yielded ops a.tmps) = true := by simp [Region.wanted, hgd]
  rw [if_pos hw]
  unfold Oper.wp execOp
  have e1 : (a.eval (.func n)) = .func (.func n) #[] #[] := rfl
  have e2 : (execOp a.eval o).run P w = .ok (.enter n vs) w := by
    simp [execOp, ho, resolve, invoke, hv, e1, Deferred.ofValue, he]
  unfold execOp at e2
  rw [e2, Oper.upon_enter]
  refine hc.mono fun e w' hh => ?_
  obtain ⟨v, rfl, hk⟩ := h e w' hh
  exact hk
/-- At a step of a region that draws its order: an append of made places whose run is known. -/
theorem step_appz {P : Program} {ops : Array Oper} {o : Oper} {a : Act} {K : Act → World → Prop} {Q : Exit → Act → World → Prop} {E : Prop} (hgd : o.guard = none) (s x : Operand) (t u : TypeId)
    (ho : o.op = .call { callee := .builtin .append, args := #[s, x], argTypes := #[t, u] }) {w w' : World} {v V v' : Value} (hs : a.eval s = v) (hx : a.eval x = V)
    (hrun : (Builtin.append_ #[t, u] o.type #[v, V]).run P w = .ok v' w') (h : K (a.put o.dst v') w') : if Region.wanted o (yielded ops a.tmps) = true then Oper.wp P o a w K Q else E := by
  have hw : Region.wanted o (yielded ops a.tmps) = true := by simp [Region.wanted, hgd]
  rw [if_pos hw]
  unfold Oper.wp execOp
  simp only [ho, resolve, invoke, builtin, Sem.run_bind, Sem.run_pure, Result.andThen_ok, List.map_toArray, List.map_cons, List.map_nil, hs, hx, hrun]
  exact h

end Go.Proofs.YtlghphccmgmomaaGreat

/-
  Proved here: what the ring's grow leaves.
  Conditions: at most 2,040 places.
-/
namespace Go.Proofs.YtlghphccmgmomaaGreat
open Go Go.RowKit
set_option maxRecDepth 100000

theorem zerosL_list (n : Nat) : (Builtin.zeroCells (Value.agg #[.string ⟨#[]⟩, .int .u64 0, .int .u64 0, .int .i64 0, .int .i64 0]).cells n).toList = encL (List.replicate n Ln.zero) := by
  rw [← madeL_list]
  rfl
theorem run_growL (w : World) (B g n k : Nat) (l : List Ln) (hn : l.length = n) (hown : w.ownsRow B 29 5 (.slice (some ⟨g, 0, none⟩) n n) n (encL l)) (hk : 0 < k) (hs : n + k ≤ 1048576) (ty : TypeId) :
    ∃ G w', (Builtin.append_ #[104, 3] ty #[.slice (some ⟨g, 0, none⟩) n n, .int .i64 (k : Nat)]).run Tryz.prog w = .ok (.slice (some ⟨w.heap.size, 0, none⟩) (n + k) G) w' ∧
      w'.ownsRow w.heap.size 29 5 (.slice (some ⟨w.heap.size, 0, none⟩) (n + k) G) (n + k) (encL (l ++ List.replicate k Ln.zero)) ∧ Below w.heap.size w w' := by
  obtain ⟨inf, hinf, hz, hs5, hby⟩ := link_info'
  have hold : (Builtin.firstCells inf.size n (.slice (some ⟨g, 0, none⟩) n n)).run Tryz.prog w.drew = .ok (encL l).toArray w.drew := by
    rw [hs5]
    exact run_firstCells_some w.drew 5 n ⟨g, 0, none⟩ n n (encL l) (by rw [encL_len, hn]) (fun j u hj => hown.cells (g := g) rfl j u hj)
  have h := Lib.run_append_grow_zeros w 104 3 ty 29 inf _ .i64 .i64 Tryz.underlying104 Tryz.underlying3 hinf hz (some ⟨g, 0, none⟩) n n (encL l) hold k hk (by omega) (by omega) (by omega) (by rw [hby]; omega) (by rw [hby]; exact growslice_fits (by omega) (by omega))
  have hGn : n + k ≤ grownCap w (n + k) n 29 := grownCap_ge w _ _ _
  have hGm : grownCap w (n + k) n 29 ≤ maxLen := grownCap_le_maxLen w (n + k) n _ (by unfold maxLen; omega)
  generalize grownCap w (n + k) n 29 = G at *
  refine ⟨G, _, h, ?_, (Below.refl _ _).drew.alloc (Nat.le_refl _) _⟩
  obtain ⟨ROW, hROW⟩ : ∃ ROW : Array Value, (encL l).toArray ++ Builtin.zeroCells (Value.agg #[.string ⟨#[]⟩, .int .u64 0, .int .u64 0, .int .i64 0, .int .i64 0]).cells k ++ Builtin.zeroCells (Value.agg #[.string ⟨#[]⟩, .int .u64 0, .int .u64 0, .int .i64 0, .int .i64 0]).cells (G - (n + k)) = ROW := ⟨_, rfl⟩
  have hRl : ROW.toList = encL (l ++ List.replicate k Ln.zero) ++ encL (List.replicate (G - (n + k)) Ln.zero) := by
    rw [← hROW, Array.toList_append, Array.toList_append, zerosL_list, zerosL_list, ← encL_append]
  have hRs : ROW.size = G * 5 := by
    rw [← Array.length_toList, hRl, List.length_append, encL_len, encL_len]
    simp
    omega
  rw [hROW]
  have hll : (encL (l ++ List.replicate k Ln.zero)).length = (n + k) * 5 := by rw [encL_len]; simp [hn]
  refine ⟨hll, .inr ⟨w.heap.size, G, ROW, rfl, Nat.le_refl _, heap_alloc_new w.drew _, hGn, hGm, hRs, ?_⟩⟩
  rw [hRl, ← hll, List.take_left]
theorem Fi.fresh {w w3 : World} {p f n b G : Nat} {v : Value} {P P' L : List Ln} (h : Fi w p v f P L) (hb : Below w.heap.size w w3) (hbb : w.heap.size ≤ b) (ho : w3.ownsRow b 29 5 (.slice (some ⟨b, 0, none⟩) n G) n (encL P')) (hn : P'.length = n) (hr : Ring P' 0 L) (hs : n ≤ 4095) :
    Fi ((w3.setCell ⟨p, 0, none⟩ (.slice (some ⟨b, 0, none⟩) n G)).setCell ⟨p, 1, none⟩ (.int .i64 0)) p (.slice (some ⟨b, 0, none⟩) n G) 0 P' L ∧ Stay (fiOwn p v) w ((w3.setCell ⟨p, 0, none⟩ (.slice (some ⟨b, 0, none⟩) n G)).setCell ⟨p, 1, none⟩ (.int .i64 0)) ∧
      ∀ k, fiOwn p (.slice (some ⟨b, 0, none⟩) n G) k → fiOwn p v k ∨ w.heap.size ≤ k := by
  have hp : p < w.heap.size := lt_of_heap h.mem
  have hm3 := (hb.block p hp).trans h.mem
  have h1 := heap_setCell_same w3 p 0 _ _ (.slice (some ⟨b, 0, none⟩) n G) hm3
  have h2 := heap_setCell_same _ p 1 _ _ (.int .i64 0) h1
  subst hn
  refine ⟨⟨by simpa using h2, own_mono (own_same ho fun k hk => ?_) (Nat.zero_le _), hr, fun e => ?_, hs⟩, ?_, fun k hk => ?_⟩
  · cases hk
    rw [Below.heap_setCell _ _ _ _ (show b ≠ p by omega), Below.heap_setCell _ _ _ _ (show b ≠ p by omega)]
  · exact absurd (show b = p from Option.some.inj e) (by omega)
  · exact ((Stay.of_below hb).trans (Stay.setCell _ p 0 _ (.inl rfl))).trans (Stay.setCell _ p 1 _ (.inl rfl))
  · rcases hk with rfl | e
    · exact .inl (.inl rfl)
    · cases e
      exact .inr hbb
/-- What grow leaves. -/
def GrowTo (w : World) (p : Nat) (v : Value) (n : Nat) (L : List Ln) (w' : World) : Prop :=
  ∃ v', Fi w' p v' 0 (L ++ List.replicate (n + 1) Ln.zero) L ∧ Stay (fiOwn p v) w w' ∧ ∀ k, fiOwn p v' k → fiOwn p v k ∨ w.heap.size ≤ k
set_option maxHeartbeats 1600000 in
set_option maxRecDepth 100000 in
theorem rgrow_any {w : World} {p f : Nat} {v : Value} {P L : List Ln} (h : Fi w p v f P L) (hl : P.length ≤ 2040) (hfull : L.length = P.length) :
    Calls Tryz.prog 193 #[.pointer (some ⟨p, 0, none⟩)] w fun e w' => e = .returned (.tuple #[]) ∧ GrowTo w p v P.length L w' := by
  obtain ⟨m, hm⟩ : ∃ m, P.length = m := ⟨_, rfl⟩
  have HC := Lib.hid (rall_any (w := w.drew) (h.below (Below.refl _ _).drew))
  obtain ⟨g, hg⟩ : ∃ g, w.heap.size = g := ⟨_, rfl⟩
  unfold AllN at HC
  rw [show w.drew.heap.size = g from hg, hfull, hm] at HC
  rw [hm] at hl ⊢
  obtain ⟨A, cap, hv, _, _⟩ := h.reads
  rw [hm] at hv
  obtain ⟨c0, c1, c2⟩ := h.cells
  rw [hv] at c0
  have c0d : w.drew.cell? ⟨p, 0, none⟩ = some (.slice A m cap) := c0
  have hpg : p < g := hg ▸ h.lt (.inl rfl)
  have HPG := Lib.hid hpg
  have HH := Lib.hid h
  have HG := Lib.hid hg
  have HE : Hid (∀ args w, (callFunc 82 args).run Tryz.prog w = .ok (.enter 82 args) w) := enters_of Tryz.func82 (by kernel_rfl) rfl
  have HLM : Hid (L.length = m) := hfull.trans hm
  have hw1 : IntKind.i64.wrap ((m : Int) + 1) = (m : Int) + 1 := by rw [IntKind.wrap_i64]; omega
  have HML : Hid (m ≤ 2040) := hl
  clear h hg hfull hm hv
  go_enter Tryz.func193, Tryz.ntmps193
  go_wp2
  go_region_law (first
    | (refine step_callR rfl 82 #[.tmp 3] #[230] rfl #[.pointer (some ⟨p, 0, none⟩)] (by simp [Act.eval, Act.put]) HE.out HC.out ?_; rintro e w2 ⟨b, rfl, ho, hb2⟩; refine ⟨_, rfl, ?_⟩; have e0 : w2.cell? ⟨p, 0, none⟩ = some (.slice A m cap) := (hb2.cell (p := ⟨p, 0, none⟩) hpg).trans c0d; obtain ⟨G, w3, e1, e2, e3⟩ := run_growL w2 g b m (m + 1) L HLM.out ho (by omega) (by omega) 104; have E1 := Lib.hid e1; have E2 := Lib.hid e2; have HB2 : Hid (Below g w w2) := (Below.refl _ _).drew.trans hb2; have HB3 : Hid (Below g w w3) := ((Below.refl _ _).drew.trans hb2).trans (e3.mono (HG.out ▸ hb2.size)); have e4 : w3.cell? ⟨p, 0, none⟩ = some (.slice A m cap) := (HB3.out.cell (p := ⟨p, 0, none⟩) hpg).trans c0; have f4 : w3.frozen? ⟨p, 0, none⟩ = false := ((HH.out.below (HG.out.symm ▸ HB3.out)).frozen 0); clear e1 e2 ho)
    | (refine step_appz rfl (.tmp 4) (.tmp 10) 104 3 rfl (by simp [Act.eval, Act.put]) (by simp [Act.eval, Act.put]) E1.out ?_))
  all_goals
    have e5 : (w3.setCell ⟨p, 0, none⟩ (.slice (some ⟨w2.heap.size, 0, none⟩) (m + (m + 1)) G)).cell? ⟨p, 1, none⟩ = some (.int .i64 (f : Nat)) := (World.cell?_setCell_other _ _ _ _ (by simp)).trans ((HB3.out.cell (p := ⟨p, 1, none⟩) hpg).trans c1)
    have f5 : (w3.setCell ⟨p, 0, none⟩ (.slice (some ⟨w2.heap.size, 0, none⟩) (m + (m + 1)) G)).frozen? ⟨p, 1, none⟩ = false := by rw [World.frozen?_setCell]; exact (HH.out.below (HG.out.symm ▸ HB3.out)).frozen 1
    go_wp2
    refine bodyPost_end (results_none rfl _ _ _) rfl ?_
    refine ⟨rfl, _, HH.out.fresh (HG.out.symm ▸ HB3.out) HB2.out.size E2.out (by simp [HLM.out]) ?_ (by have := HML.out; omega)⟩
    exact Ring.grown L m

end Go.Proofs.YtlghphccmgmomaaGreat

/-
  Proved here: what a push leaves where there is room.
  Conditions: at most 4,095 places.
-/
namespace Go.Proofs.YtlghphccmgmomaaGreat
open Go Go.RowKit
set_option maxRecDepth 100000

theorem Fi.wrote {w w1 w2 : World} {p f f' : Nat} {v : Value} {P P' L L' : List Ln} (h : Fi w p v f P L) (ho : w1.ownsRow 0 29 5 v P'.length (encL P')) (hg : w.grownBy w1 v.ownBlock) (hl : P'.length = P.length) (hr : Ring P' f' L')
    (hm : w2.heap[p]? = some (.cells #[v, .int .i64 (f' : Nat), .int .i64 (L'.length : Nat)] 174 (0, 0))) (hs : Stay (fun k => k = p) w1 w2) : Fi w2 p v f' P' L' ∧ Stay (fiOwn p v) w w2 := by
  have hs1 : Stay (fun k => v.ownBlock = some k) w w1 := ⟨hg.os, hg.tape, hg.output, hg.size, fun k hk hl => hg.block k hl (fun e => hk e.symm)⟩
  refine ⟨⟨hm, own_same ho fun k hk => hs.block k (fun e => h.self (e ▸ hk)) (ho.lt k hk).2, hr, h.self, hl ▸ h.small⟩, ?_⟩
  exact (hs1.mono fun k _ hk => (.inr hk : fiOwn p v k)).trans (hs.mono fun k _ hk => (.inl hk : fiOwn p v k))
theorem grown_tr {a b' c : World} {b : Option Nat} (k1 : a.grownBy b' b) (k2 : b'.grownBy c b) : a.grownBy c b :=
  ⟨k2.os.trans k1.os, k2.tape.trans k1.tape, k2.output.trans k1.output, Nat.le_trans k1.size k2.size, fun k hk hne => (k2.block k (Nat.lt_of_lt_of_le hk k1.size) hne).trans (k1.block k hk hne)⟩
/-- One link of a row written over. -/
theorem own_set5 {w : World} {B b n cap i : Nat} {l : List Ln} (h : w.ownsRow B 29 5 (.slice (some ⟨b, 0, none⟩) n cap) n (encL l)) (x : Ln) (hi : i < l.length) :
    (((((w.setCell ⟨b, i * 5, none⟩ (.string x.str)).setCell ⟨b, i * 5 + 1, none⟩ (.int .u64 (x.id : Nat))).setCell ⟨b, i * 5 + 2, none⟩ (.int .u64 (x.ver : Nat))).setCell ⟨b, i * 5 + 3, none⟩ (.int .i64 x.line)).setCell ⟨b, i * 5 + 4, none⟩ (.int .i64 x.cl)).ownsRow B 29 5 (.slice (some ⟨b, 0, none⟩) n cap) n (encL (l.set i x)) ∧
      w.grownBy (((((w.setCell ⟨b, i * 5, none⟩ (.string x.str)).setCell ⟨b, i * 5 + 1, none⟩ (.int .u64 (x.id : Nat))).setCell ⟨b, i * 5 + 2, none⟩ (.int .u64 (x.ver : Nat))).setCell ⟨b, i * 5 + 3, none⟩ (.int .i64 x.line)).setCell ⟨b, i * 5 + 4, none⟩ (.int .i64 x.cl)) (some b) := by
  have s0 := h.stored (i * 5) (.string x.str)
  have s1 := s0.1.stored (i * 5 + 1) (.int .u64 (x.id : Nat))
  have s2 := s1.1.stored (i * 5 + 2) (.int .u64 (x.ver : Nat))
  have s3 := s2.1.stored (i * 5 + 3) (.int .i64 x.line)
  have s4 := s3.1.stored (i * 5 + 4) (.int .i64 x.cl)
  have e := s4.1
  rw [encL_set l _ x hi] at e
  exact ⟨e, grown_tr (grown_tr (grown_tr (grown_tr s0.2 s1.2) s2.2) s3.2) s4.2⟩
theorem own_where {w : World} {v : Value} {n : Nat} {l : List Ln} (h : w.ownsRow 0 29 5 v n (encL l)) (hn : 0 < n) : ∃ b cap, v = .slice (some ⟨b, 0, none⟩) n cap := by
  rcases h.2 with ⟨_, e⟩ | ⟨g, cap, cur, e, _⟩
  · omega
  · exact ⟨g, cap, e⟩
/-- Behind a push, where there was room. -/
theorem Fi.pushed {w : World} {p f b m cap n : Nat} {P L : List Ln} (h : Fi w p (.slice (some ⟨b, 0, none⟩) m cap) f P L) (hm : P.length = m) (hr : L.length < m) (x : Ln) (hn : L.length = n) {r : Nat} (hrr : (f + n) % m = r) :
    Fi ((((((w.setCell ⟨b, r * 5, none⟩ (.string x.str)).setCell ⟨b, r * 5 + 1, none⟩ (.int .u64 (x.id : Nat))).setCell ⟨b, r * 5 + 2, none⟩ (.int .u64 (x.ver : Nat))).setCell ⟨b, r * 5 + 3, none⟩ (.int .i64 x.line)).setCell ⟨b, r * 5 + 4, none⟩ (.int .i64 x.cl)).setCell ⟨p, 2, none⟩ (.int .i64 ((n : Int) + 1))) p (.slice (some ⟨b, 0, none⟩) m cap) f (P.set r x) (L ++ [x]) ∧
    Stay (fiOwn p (.slice (some ⟨b, 0, none⟩) m cap)) w ((((((w.setCell ⟨b, r * 5, none⟩ (.string x.str)).setCell ⟨b, r * 5 + 1, none⟩ (.int .u64 (x.id : Nat))).setCell ⟨b, r * 5 + 2, none⟩ (.int .u64 (x.ver : Nat))).setCell ⟨b, r * 5 + 3, none⟩ (.int .i64 x.line)).setCell ⟨b, r * 5 + 4, none⟩ (.int .i64 x.cl)).setCell ⟨p, 2, none⟩ (.int .i64 ((n : Int) + 1))) := by
  subst hn
  have hro := h.row
  rw [hm] at hro
  have hrl : r < P.length := by rw [← hrr, hm]; exact Nat.mod_lt _ (by omega)
  obtain ⟨h1, h2⟩ := own_set5 hro x hrl
  have hpb : p ≠ b := fun e => h.self (by rw [e]; rfl)
  have hmem := (h2.block p (lt_of_heap h.mem) (by simp; omega)).trans h.mem
  have h3 := heap_setCell_same _ p 2 _ _ (.int .i64 ((L.length : Int) + 1)) hmem
  refine h.wrote (P' := P.set r x) (by rw [List.length_set, hm]; exact h1) h2 (by simp) (by have := h.ring.push (by rw [hm]; exact hr) x; rwa [hm, hrr] at this) (by rw [h3]; simp) (Stay.setCell _ p 2 _ rfl)
theorem cell_set5 {w : World} {b p : Nat} (h : b ≠ p) (o j : Nat) (v0 v1 v2 v3 v4 : Value) : (((((w.setCell ⟨b, o, none⟩ v0).setCell ⟨b, o + 1, none⟩ v1).setCell ⟨b, o + 2, none⟩ v2).setCell ⟨b, o + 3, none⟩ v3).setCell ⟨b, o + 4, none⟩ v4).cell? ⟨p, j, none⟩ = w.cell? ⟨p, j, none⟩ := by
  have hb : ∀ (w : World) (i : Nat) (u : Value), (w.setCell ⟨b, i, none⟩ u).cell? ⟨p, j, none⟩ = w.cell? ⟨p, j, none⟩ := fun w i u => World.cell?_setCell_other _ _ _ _ (fun e => h (by cases e; rfl))
  rw [hb, hb, hb, hb, hb]
theorem frozen_set5 {w : World} {b p : Nat} (o j : Nat) (v0 v1 v2 v3 v4 : Value) : (((((w.setCell ⟨b, o, none⟩ v0).setCell ⟨b, o + 1, none⟩ v1).setCell ⟨b, o + 2, none⟩ v2).setCell ⟨b, o + 3, none⟩ v3).setCell ⟨b, o + 4, none⟩ v4).frozen? ⟨p, j, none⟩ = w.frozen? ⟨p, j, none⟩ := by simp
/-- The five cells of a link of a row. -/
theorem own_five {w : World} {B b n cap i : Nat} {l : List Ln} (h : w.ownsRow B 29 5 (.slice (some ⟨b, 0, none⟩) n cap) n (encL l)) (hi : i < l.length) :
    (∃ u, w.cell? ⟨b, i * 5, none⟩ = some u) ∧ (∃ u, w.cell? ⟨b, i * 5 + 1, none⟩ = some u) ∧ (∃ u, w.cell? ⟨b, i * 5 + 2, none⟩ = some u) ∧ (∃ u, w.cell? ⟨b, i * 5 + 3, none⟩ = some u) ∧ (∃ u, w.cell? ⟨b, i * 5 + 4, none⟩ = some u) ∧ ∀ j, w.frozen? ⟨b, j, none⟩ = false := by
  have hl : (encL l).length = n * 5 := h.1
  have key : ∀ j, j < 5 → ∃ u, w.cell? ⟨b, i * 5 + j, none⟩ = some u := fun j hj => by
    rw [encL_len] at hl
    rw [h.cellAt (i * 5 + j) (by omega)]
    have : i * 5 + j < (encL l).length := by rw [encL_len]; omega
    exact ⟨_, List.getElem?_eq_getElem this⟩
  exact ⟨key 0 (by omega), key 1 (by omega), key 2 (by omega), key 3 (by omega), key 4 (by omega), fun j => h.frozenAt j⟩

end Go.Proofs.YtlghphccmgmomaaGreat
