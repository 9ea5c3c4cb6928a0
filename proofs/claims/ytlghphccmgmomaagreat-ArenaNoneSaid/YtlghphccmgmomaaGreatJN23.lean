/-
  Proved here, joined: TabE, Cells13, Insert13
  Conditions: as each part says.
-/
import Derived.Test.YtlghphccmgmomaaGreatJN22
import Derived.Deep.RegionHeld3
import Derived.StillTailTactics
import Derived.Test.YtlghphccmgmomaaGreatJN21
import Derived.Test.YtlghphccmgmomaaGreatJN19
import Derived.Test.YtlghphccmgmomaaGreatJN18
import Derived.Laws.IdiomCopy
import Derived.Laws.OwnMore

/-
  Proved here: what the table's Set answers and leaves.
  Conditions: keys of at most 2^30 bytes; fewer than 2^20 links.
-/
namespace Go.Proofs.YtlghphccmgmomaaGreat
open Go Go.RowKit
set_option maxRecDepth 100000

set_option maxHeartbeats 1600000 in
theorem tbset_any {w : World} {p : Nat} {m : Nat → Option Nat} {L : List Ln} (h : Tb w p m L) (x : Ln) (hx : x.k.length ≤ 1073741824) (hl : L.length < 1048576) :
    Calls Tryz.prog 107 #[.pointer (some ⟨p, 0, none⟩), .agg #[.string x.str, .int .u64 (x.id : Nat), .int .u64 (x.ver : Nat), .int .i64 x.line, .int .i64 x.cl]] w fun y w' => y = .returned (.bool (hasT L x.k)) ∧ TbTo w p m (setT L x) w' := by
  obtain ⟨g, hg⟩ : ∃ g, w.heap.size = g := ⟨_, rfl⟩
  have HG := Lib.hid hg
  have hsz : x.str.size ≤ 1073741824 := by show x.k.toArray.size ≤ _; simpa using hx
  have hsk : x.str.data.toList = x.k := rfl
  obtain ⟨w1, hw1⟩ : ∃ w1, w.alloc (.cells #[.string x.str, .int .u64 (x.id : Nat), .int .u64 (x.ver : Nat), .int .i64 x.line, .int .i64 x.cl] 29) = w1 := ⟨_, rfl⟩
  have hb1 : Below g w w1 := by rw [← hw1, ← hg]; exact (Below.refl _ _).alloc (Nat.le_refl _) _
  have hx1 : LBox w1 g x := by rw [← hw1, ← hg]; exact heap_alloc_new w _
  have HB1 := Lib.hid hb1
  have HX1 : Hid (w1.heap[g]? = some (.cells #[.string x.str, .int .u64 (x.id : Nat), .int .u64 (x.ver : Nat), .int .i64 x.line, .int .i64 x.cl] 29 (0, 0))) := hx1
  have HBK := Lib.hid (bucket_any x.str hsz w1)
  rw [hsk] at HBK
  obtain ⟨R, hR⟩ : ∃ R : Ending → World → Prop, (fun y w' => y = .returned (.bool (hasT L x.k)) ∧ TbTo w p m (setT L x) w') = R := ⟨_, rfl⟩
  rw [hR]
  have hb8 := bkt_lt x.k
  have hbk8 : addS 0 x.k % 8 < 8 := hb8
  have hlk : ∀ {w' : World} {m' : Nat → Option Nat}, Tb w' p m' L → ∀ w5, Below w'.heap.size w' w5 → (Instr.lookup 161 (.map (m' (bkt x.k))) (.string x.str) true).run Tryz.prog w5 = .ok (.tuple #[(linkT L x.k).agg, .bool (hasT L x.k)]) w5 := fun ht w5 hb => by
    have := ht.look hb x.str hsz
    rwa [hsk] at this
  cases hm : m (bkt x.k) with
  | some b =>
    have HC0 : Hid (∀ w2, Below w1.heap.size w1 w2 → ∀ w5, Below w2.heap.size w2 w5 → w5.cell? ⟨p, bkt x.k, none⟩ = some (.map (some b)) ∧ w5.heap[g]? = some (.cells #[.string x.str, .int .u64 (x.id : Nat), .int .u64 (x.ver : Nat), .int .i64 x.line, .int .i64 x.cl] 29 (0, 0)) ∧
        (Instr.lookup 161 (.map (some b)) (.string x.str) true).run Tryz.prog w5 = .ok (.tuple #[(linkT L x.k).agg, .bool (hasT L x.k)]) w5 ∧
        ∃ w7, (Instr.mapUpdate 161 (.map (some b)) (.string x.str) (.agg #[.string x.str, .int .u64 (x.id : Nat), .int .u64 (x.ver : Nat), .int .i64 x.line, .int .i64 x.cl])).run Tryz.prog w5.drew = .ok () w7 ∧ R (.returned (.bool (hasT L x.k))) w7) := fun w2 hb2 w5 hb5 => by
      have hbb : Below w.heap.size w w2 := hg.symm ▸ hb1.trans (hb2.mono (Nat.le_of_lt (lt_of_heap hx1)))
      have t2 := h.below hbb
      have t5 := t2.below hb5
      have hc := t5.cell hb8
      rw [hm] at hc
      have hlt2 : g < w2.heap.size := Nat.lt_of_lt_of_le (lt_of_heap hx1) hb2.size
      have hlook := hlk t2 w5 hb5
      rw [hm] at hlook
      obtain ⟨w7, e1, e2, e3⟩ := (t5.drewN 1).sets x hx hm hl
      refine ⟨hc, (hb5.block g hlt2).trans ((hb2.block g (lt_of_heap hx1)).trans hx1), hlook, w7, e1, ?_⟩
      rw [← hR]
      exact ⟨rfl, tbset_old hbb (hb5.trans (below_drewN (Below.refl _ _) 1)) e2 e3 h⟩

    clear hlk h hx hl hsz hsk hb1 hx1 hm hR hb8
    obtain ⟨bk, hbk⟩ : ∃ bk, addS 0 x.k % 8 = bk := ⟨_, rfl⟩
    have hbe : bkt x.k = bk := hbk
    rw [hbk] at HBK hbk8
    rw [hbe] at HC0
    clear hbk hbe
    have hbi : (bk : Int) < 8 := by omega
    obtain ⟨u, hu⟩ : ∃ u, linkT L x.k = u := ⟨_, rfl⟩
    rw [hu] at HC0
    unfold Ln.agg at HC0
    generalize hasT L x.k = had at *
    generalize u.str = u0 at *
    generalize (u.id : Int) = u1 at *
    generalize (u.ver : Int) = u2 at *
    generalize u.line = u3 at *
    generalize u.cl = u4 at *
    generalize x.str = x0 at *
    generalize (x.id : Int) = x1 at *
    generalize (x.ver : Int) = x2 at *
    generalize x.line = x3 at *
    generalize x.cl = x4 at *
    have HZ := Lib.hid zero_link
    clear hu
    go_enter Tryz.func107, Tryz.ntmps107
    obtain ⟨x0', x1', x2', x3', x4'⟩ := cellsL HX1.out
    go_wp2_with fail
    refine HBK.out.mono ?_
    clear hw1 hg
    rintro e w2 ⟨rfl, hb2⟩
    have HC := Lib.hid (HC0.out w2 hb2)
    obtain ⟨hc2, hx2, _, _⟩ := HC.out w2 (Below.refl _ _)
    have HX2 := Lib.hid hx2
    have heq : Sem.run Tryz.prog (binOp .eql 161 (.map (some b)) (.map none)) w2 = .ok (.bool false) w2 := run_eql_map_nil w2 161 _ _ (some b) Tryz.underlying161
    clear hb2 hx2
    go_wp2
    obtain ⟨hc3, hb3, hl3, _⟩ := HC.out w2 (Below.refl _ _)
    obtain ⟨w5, hw5⟩ : ∃ w5, (w2.alloc (.cells #[.string u0, .int .u64 u1, .int .u64 u2, .int .i64 u3, .int .i64 u4] 29)).drew = w5 := ⟨_, rfl⟩
    have HB5 : Hid (Below w2.heap.size w2 w5) := by rw [← hw5]; exact below_drewN ((Below.refl _ _).alloc (Nat.le_refl _) _) 1
    have HW5 := Lib.hid hw5
    obtain ⟨c5, b5, _, w7, r7, f7⟩ := HC.out w5 HB5.out
    have c5' : w5.drew.cell? ⟨p, bk, none⟩ = some (.map (some b)) := c5
    obtain ⟨d0, d1, d2, d3, d4⟩ := cellsL (w := w5.drew) b5
    have F7 := Lib.hid f7
    clear hw5 f7 c5 b5
    have hs3 : ∀ w', Below w2.heap.size w2 w' → w'.cell? ⟨p, bk, none⟩ = some (.map (some b)) ∧ w'.cell? ⟨g, 0, none⟩ = some (.string x0) ∧ Sem.run Tryz.prog (Instr.lookup 161 (.map (some b)) (.string x0) true) w' = .ok (.tuple #[.agg #[.string u0, .int .u64 u1, .int .u64 u2, .int .i64 u3, .int .i64 u4], .bool had]) w' := fun w' hb => ⟨(HC.out w' hb).1, (cellsL (HC.out w' hb).2.1).1, (HC.out w' hb).2.2.1⟩
    have HS3 := Lib.hid hs3
    obtain ⟨e1, e2, e3⟩ := hs3 w2.drew (below_drewN (Below.refl _ _) 1)
    clear hs3
    go_region_held3 (fun w' => w'.cell? ⟨p, bk, none⟩ = some (.map (some b)) ∧ w'.cell? ⟨g, 0, none⟩ = some (.string x0) ∧ Sem.run Tryz.prog (Instr.lookup 161 (.map (some b)) (.string x0) true) w' = .ok (.tuple #[.agg #[.string u0, .int .u64 u1, .int .u64 u2, .int .i64 u3, .int .i64 u4], .bool had]) w')
      (first | exact HS3.out _ (below_drewN (Below.refl _ _) 1) | exact HS3.out _ ((below_drewN (Below.refl _ _) 1).alloc (Nat.le_refl _) _) | (trace_state; fail))
      (fail)
    all_goals
      rw [HW5.out]
      go_wp2
      refine wp_region_still_tail 9 (by kernel_rfl) (by kernel_rfl) ?_
      change wpStill _ _ w5.drew _ _ _
      iterate 9 still_step
      refine wpStill_nil ?_
      change wpList _ _ _ _ _ w5.drew
      go_wp2
      exact F7.out
  | none =>
    have HC0 : Hid (∀ w2, Below w1.heap.size w1 w2 → ∀ b, w2.heap.size = b → ∃ w3, (w2.alloc (.map #[] 0)).setCell ⟨p, bkt x.k, none⟩ (.map (some b)) = w3 ∧ w2.cell? ⟨p, bkt x.k, none⟩ = some (.map none) ∧ (w2.alloc (.map #[] 0)).cell? ⟨p, bkt x.k, none⟩ = some (.map none) ∧ (w2.alloc (.map #[] 0)).frozen? ⟨p, bkt x.k, none⟩ = false ∧
        ∀ w5, Below w3.heap.size w3 w5 → w5.cell? ⟨p, bkt x.k, none⟩ = some (.map (some b)) ∧ w5.heap[g]? = some (.cells #[.string x.str, .int .u64 (x.id : Nat), .int .u64 (x.ver : Nat), .int .i64 x.line, .int .i64 x.cl] 29 (0, 0)) ∧
        (Instr.lookup 161 (.map (some b)) (.string x.str) true).run Tryz.prog w5 = .ok (.tuple #[(linkT L x.k).agg, .bool (hasT L x.k)]) w5 ∧
        ∃ w7, (Instr.mapUpdate 161 (.map (some b)) (.string x.str) (.agg #[.string x.str, .int .u64 (x.id : Nat), .int .u64 (x.ver : Nat), .int .i64 x.line, .int .i64 x.cl])).run Tryz.prog w5.drew = .ok () w7 ∧ R (.returned (.bool (hasT L x.k))) w7) := fun w2 hb2 b hbz => by
      have hbb : Below w.heap.size w w2 := hg.symm ▸ hb1.trans (hb2.mono (Nat.le_of_lt (lt_of_heap hx1)))
      have t2 := h.below hbb
      have hlt2 : g < w2.heap.size := Nat.lt_of_lt_of_le (lt_of_heap hx1) hb2.size
      have hpl : p < w2.heap.size := lt_of_heap t2.mem
      have t3 := t2.made hb8 hm
      rw [hbz] at t3
      have hc := t2.cell hb8
      rw [hm] at hc
      have ta := t2.below ((Below.refl _ _).alloc (Nat.le_refl _) (.map #[] 0))
      have hca := ta.cell hb8
      rw [hm] at hca
      have h3s : Stay (fun k => k = p) w2 ((w2.alloc (.map #[] 0)).setCell ⟨p, bkt x.k, none⟩ (.map (some b))) := (Stay.of_below ((Below.refl _ _).alloc (Nat.le_refl _) _)).trans (Stay.setCell _ _ _ _ rfl)
      have hgp : g ≠ p := by have := lt_of_heap h.mem; omega
      refine ⟨_, rfl, hc, hca, ta.frozen _, fun w5 hb5 => ?_⟩
      have t5 := t3.below hb5
      have hc5 := t5.cell hb8
      simp only [if_true] at hc5
      have hlook := hlk t3 w5 hb5
      simp only [if_true] at hlook
      obtain ⟨w7, e1, e2, e3⟩ := (t5.drewN 1).sets (b := b) x hx (by simp) hl
      refine ⟨hc5, (hb5.block g (Nat.lt_of_lt_of_le hlt2 h3s.size)).trans ((h3s.block g hgp hlt2).trans ((hb2.block g (lt_of_heap hx1)).trans hx1)), hlook, w7, e1, ?_⟩
      rw [← hR]
      exact ⟨rfl, tbset_new hbb hbz h3s (hb5.trans (below_drewN (Below.refl _ _) 1)) e2 e3 h⟩

    clear hlk h hx hl hsz hsk hb1 hx1 hm hR hb8
    obtain ⟨bk, hbk⟩ : ∃ bk, addS 0 x.k % 8 = bk := ⟨_, rfl⟩
    have hbe : bkt x.k = bk := hbk
    rw [hbk] at HBK hbk8
    rw [hbe] at HC0
    clear hbk hbe
    have hbi : (bk : Int) < 8 := by omega
    obtain ⟨u, hu⟩ : ∃ u, linkT L x.k = u := ⟨_, rfl⟩
    rw [hu] at HC0
    unfold Ln.agg at HC0
    generalize hasT L x.k = had at *
    generalize u.str = u0 at *
    generalize (u.id : Int) = u1 at *
    generalize (u.ver : Int) = u2 at *
    generalize u.line = u3 at *
    generalize u.cl = u4 at *
    generalize x.str = x0 at *
    generalize (x.id : Int) = x1 at *
    generalize (x.ver : Int) = x2 at *
    generalize x.line = x3 at *
    generalize x.cl = x4 at *
    have HZ := Lib.hid zero_link
    clear hu
    go_enter Tryz.func107, Tryz.ntmps107
    obtain ⟨x0', x1', x2', x3', x4'⟩ := cellsL HX1.out
    go_wp2_with fail
    refine HBK.out.mono ?_
    clear hw1 hg
    rintro e w2 ⟨rfl, hb2⟩
    obtain ⟨b, hbz⟩ : ∃ b, w2.heap.size = b := ⟨_, rfl⟩
    obtain ⟨w3, hw3, hc2, hca, hfa, hc⟩ := HC0.out w2 hb2 b hbz
    have HC := Lib.hid hc
    have heq : Sem.run Tryz.prog (binOp .eql 161 (.map none) (.map none)) w2 = .ok (.bool true) w2 := run_eql_map_nil w2 161 _ _ none Tryz.underlying161
    have hmm := @run_makeMap Tryz.prog
    clear hb2 hc
    go_wp2
    clear hmm hw3 hbz hc2 hca hfa heq
    obtain ⟨hc3, hb3, hl3, _⟩ := HC.out w3 (Below.refl _ _)
    obtain ⟨w5, hw5⟩ : ∃ w5, (w3.alloc (.cells #[.string u0, .int .u64 u1, .int .u64 u2, .int .i64 u3, .int .i64 u4] 29)).drew = w5 := ⟨_, rfl⟩
    have HB5 : Hid (Below w3.heap.size w3 w5) := by rw [← hw5]; exact below_drewN ((Below.refl _ _).alloc (Nat.le_refl _) _) 1
    have HW5 := Lib.hid hw5
    obtain ⟨c5, b5, _, w7, r7, f7⟩ := HC.out w5 HB5.out
    have c5' : w5.drew.cell? ⟨p, bk, none⟩ = some (.map (some b)) := c5
    obtain ⟨d0, d1, d2, d3, d4⟩ := cellsL (w := w5.drew) b5
    have F7 := Lib.hid f7
    clear hw5 f7 c5 b5
    have hs3 : ∀ w', Below w3.heap.size w3 w' → w'.cell? ⟨p, bk, none⟩ = some (.map (some b)) ∧ w'.cell? ⟨g, 0, none⟩ = some (.string x0) ∧ Sem.run Tryz.prog (Instr.lookup 161 (.map (some b)) (.string x0) true) w' = .ok (.tuple #[.agg #[.string u0, .int .u64 u1, .int .u64 u2, .int .i64 u3, .int .i64 u4], .bool had]) w' := fun w' hb => ⟨(HC.out w' hb).1, (cellsL (HC.out w' hb).2.1).1, (HC.out w' hb).2.2.1⟩
    have HS3 := Lib.hid hs3
    obtain ⟨e1, e2, e3⟩ := hs3 w3.drew (below_drewN (Below.refl _ _) 1)
    clear hs3
    go_region_held3 (fun w' => w'.cell? ⟨p, bk, none⟩ = some (.map (some b)) ∧ w'.cell? ⟨g, 0, none⟩ = some (.string x0) ∧ Sem.run Tryz.prog (Instr.lookup 161 (.map (some b)) (.string x0) true) w' = .ok (.tuple #[.agg #[.string u0, .int .u64 u1, .int .u64 u2, .int .i64 u3, .int .i64 u4], .bool had]) w')
      (first | exact HS3.out _ (below_drewN (Below.refl _ _) 1) | exact HS3.out _ ((below_drewN (Below.refl _ _) 1).alloc (Nat.le_refl _) _) | (trace_state; fail))
      (fail)
    all_goals
      rw [HW5.out]
      go_wp2
      refine wp_region_still_tail 9 (by kernel_rfl) (by kernel_rfl) ?_
      change wpStill _ _ w5.drew _ _ _
      iterate 9 still_step
      refine wpStill_nil ?_
      change wpList _ _ _ _ _ w5.drew
      go_wp2
      exact F7.out

end Go.Proofs.YtlghphccmgmomaaGreat

/-
  Proved here: cells of a row of links written, copied and cleared.
  Conditions: none.
-/
namespace Go.Proofs.YtlghphccmgmomaaGreat
open Go Go.RowKit
set_option maxRecDepth 100000

/-! ### Cells written one behind the other -/
/-- A copy within, or into, a row of links. -/
theorem run_copyL (w : World) (ty : TypeId) (g o dLen dCap : Nat) (a : Addr) (sLen sCap : Nat) (cs : List Value) (cur : Array Value) (h : w.heap[g]? = some (.cells cur 29 (0, 0)))
    (hn : cs.length = Nat.min sLen dLen * 5) (hsrc : ∀ j v, cs[j]? = some v → w.cell? (a.add j) = some v) (ho : o + cs.length ≤ cur.size) (h1 : ∀ v ∈ cs, v.oneCell' = true) :
    (Builtin.copy_ #[104, 104] ty #[.slice (some ⟨g, o, none⟩) dLen dCap, .slice (some a) sLen sCap]).run Tryz.prog w = .ok (goInt (Nat.min sLen dLen : Nat)) (w.setCells g o cs) := by
  obtain ⟨i, hi, _, hs, _⟩ := link_info'
  have hu : Tryz.prog.underlying 104 = some (.slice 29) := Tryz.underlying104
  have hl := run_loadCells_list (P := Tryz.prog) w a cs hsrc
  have hst := run_storeCells_cells (P := Tryz.prog) g o cs 0 w (by intro j hj; simpa using cell_some h (j := o + j) (by omega)) (by intro j hj; simp [World.frozen?, h]) h1
  rw [hn] at hl
  simp [Builtin.copy_, run_underlying hu, Builtin.lenOf, Builtin.firstCells, sizeOf, typeInfo, hi, hs, hl, hst]
/-- One link of a row cleared. -/
theorem run_clearL (w : World) (ty : TypeId) (g o c : Nat) (cur : Array Value) (h : w.heap[g]? = some (.cells cur 29 (0, 0))) (ho : o + 5 ≤ cur.size) :
    (Builtin.clear_ #[104] ty #[.slice (some ⟨g, o, none⟩) 1 c]).run Tryz.prog w = .ok (.tuple #[]) (w.setCells g o Ln.zero.cells) := by
  have hu : Tryz.prog.underlying 104 = some (.slice 29) := Tryz.underlying104
  have hv := Tryz.zeroValue29
  have hst := run_storeCells_cells (P := Tryz.prog) g o Ln.zero.cells 0 w (by intro j hj; have : j < 5 := hj; simpa using cell_some h (j := o + j) (by omega)) (by intro j hj; simp [World.frozen?, h]) (by
    intro v hv
    simp only [Ln.cells, List.mem_cons, List.not_mem_nil, or_false] at hv
    rcases hv with rfl | rfl | rfl | rfl | rfl <;> rfl)
  have hz : (Builtin.zeroCells (Value.agg #[.string ⟨#[]⟩, .int .u64 0, .int .u64 0, .int .i64 0, .int .i64 0]).cells 1).toList = Ln.zero.cells := by kernel_rfl
  simp only [Nat.add_zero] at hst
  simp [Builtin.clear_, run_underlying hu, hv, hz, hst]
/-- A row is what its block holds. -/
theorem own_block {w : World} {g n cap : Nat} {l : List Ln} (h : w.ownsRow 0 29 5 (.slice (some ⟨g, 0, none⟩) n cap) n (encL l)) : ∃ cur, w.heap[g]? = some (.cells cur 29 (0, 0)) ∧ n ≤ cap ∧ cap ≤ maxLen ∧ cur.size = cap * 5 ∧ cur.toList.take (n * 5) = encL l := by
  rcases h.2 with ⟨e, _⟩ | ⟨g2, c2, cur, e, _, h1, h2, h3, h4, h5⟩
  · cases e
  · cases e
    exact ⟨cur, h1, h2, h3, h4, h5⟩
theorem block_own {w : World} {g n cap : Nat} {l : List Ln} {cur : Array Value} (hb : w.heap[g]? = some (.cells cur 29 (0, 0))) (h1 : n ≤ cap) (h2 : cap ≤ maxLen) (h3 : cur.size = cap * 5) (h4 : cur.toList.take (n * 5) = encL l) : w.ownsRow 0 29 5 (.slice (some ⟨g, 0, none⟩) n cap) n (encL l) := by
  refine ⟨?_, .inr ⟨g, cap, cur, rfl, Nat.zero_le _, hb, h1, h2, h3, h4⟩⟩
  rw [← h4, List.length_take]
  have : cur.toList.length = cap * 5 := by rw [Array.length_toList, h3]
  have : n * 5 ≤ cap * 5 := Nat.mul_le_mul_right _ h1
  omega
/-- What is written behind a row turns none of it. -/
theorem own_behind {w : World} {g n cap o : Nat} {l : List Ln} (h : w.ownsRow 0 29 5 (.slice (some ⟨g, 0, none⟩) n cap) n (encL l)) (vs : List Value) (ho : n * 5 ≤ o) (hv : o + vs.length ≤ cap * 5) : (w.setCells g o vs).ownsRow 0 29 5 (.slice (some ⟨g, 0, none⟩) n cap) n (encL l) := by
  obtain ⟨cur, h1, h2, h3, h4, h5⟩ := own_block h
  obtain ⟨cur', e1, e2, e3⟩ := heap_setCells _ g vs o w cur h1 (by omega)
  refine block_own e1 h2 h3 (e3.trans h4) ?_
  rw [e2, List.append_assoc, List.take_append_of_le_length (by rw [List.length_take, Array.length_toList]; omega), List.take_take, Nat.min_eq_left ho, h5]
theorem encL_take (l : List Ln) (i : Nat) : (encL l).take (i * 5) = encL (l.take i) := by
  induction l generalizing i with
  | nil => simp [encL]
  | cons a l ih =>
    cases i with
    | zero => simp [encL]
    | succ i =>
      have ha : a.cells.length = 5 := rfl
      simp only [encL, List.flatMap_cons, List.take_succ_cons] at ih ⊢
      rw [show (i + 1) * 5 = a.cells.length + i * 5 by omega, List.take_length_add_append, ih]
theorem encL_drop (l : List Ln) (i : Nat) : (encL l).drop (i * 5) = encL (l.drop i) := by
  induction l generalizing i with
  | nil => simp [encL]
  | cons a l ih =>
    cases i with
    | zero => simp [encL]
    | succ i =>
      have ha : a.cells.length = 5 := rfl
      simp only [encL, List.flatMap_cons, List.drop_succ_cons] at ih ⊢
      rw [show (i + 1) * 5 = a.cells.length + i * 5 by omega, List.drop_length_add_append, ih]
theorem own_take {w : World} {g n cap : Nat} {l : List Ln} (h : w.ownsRow 0 29 5 (.slice (some ⟨g, 0, none⟩) n cap) n (encL l)) {i : Nat} (hi : i ≤ n) : w.ownsRow 0 29 5 (.slice (some ⟨g, 0, none⟩) i cap) i (encL (l.take i)) := by
  obtain ⟨cur, h1, h2, h3, h4, h5⟩ := own_block h
  refine block_own h1 (Nat.le_trans hi h2) h3 h4 ?_
  rw [← encL_take, ← h5, List.take_take, Nat.min_eq_left (by omega)]

end Go.Proofs.YtlghphccmgmomaaGreat

/-
  Proved here: what slices.Insert leaves of a row of links, where the link goes to the end.
  Conditions: less than 2^20 links.
-/
namespace Go.Proofs.YtlghphccmgmomaaGreat
open Go Go.RowKit
set_option maxRecDepth 100000

/-- What an insertion leaves. -/
def InsTo (l : List Ln) (v : Value) (w : World) (e : Ending) (w' : World) : Prop :=
  ∃ u, e = .returned u ∧ w'.ownsRow 0 29 5 u l.length (encL l) ∧ w.grownBy w' v.ownBlock ∧ ∀ k, u.ownBlock = some k → v.ownBlock = some k ∨ w.heap.size ≤ k
theorem row_oneL {w : World} {vb : Nat} {x : Ln} (hx : w.heap[vb]? = some (.cells #[.string x.str, .int .u64 (x.id : Nat), .int .u64 (x.ver : Nat), .int .i64 x.line, .int .i64 x.cl] 29 (0, 0))) : RowL w (some ⟨vb, 0, none⟩) [x] :=
  ⟨by simp, fun _ => ⟨vb, 0, rfl, lt_of_heap hx, fun i a hi j u hu => by
    obtain rfl : i = 0 := by have := (List.getElem?_eq_some_iff.1 hi).1; simp at this; omega
    obtain rfl : x = a := by simpa using hi
    obtain ⟨c0, c1, c2, c3, c4⟩ := cellsL hx
    rw [show 0 + 0 * 5 + j = j by omega]
    match j, hu with
    | 0, hu => exact c0.trans hu
    | 1, hu => exact c1.trans hu
    | 2, hu => exact c2.trans hu
    | 3, hu => exact c3.trans hu
    | 4, hu => exact c4.trans hu
    | j + 5, hu => simp [Ln.cells] at hu⟩⟩
theorem insert_run {w : World} {v : Value} {l : List Ln} {x : Ln} {vb : Nat} (hown : w.ownsRow 0 29 5 v l.length (encL l)) (hl : l.length < 1048576) (hx : w.heap[vb]? = some (.cells #[.string x.str, .int .u64 (x.id : Nat), .int .u64 (x.ver : Nat), .int .i64 x.line, .int .i64 x.cl] 29 (0, 0))) :
    ∃ u w', (Builtin.append_ #[104, 104] 104 #[v, .slice (some ⟨vb, 0, none⟩) 1 1]).run Tryz.prog w = .ok u w' ∧ InsTo (l ++ [x]) v w (.returned u) w' := by
  obtain ⟨v', w', h1, h2, h3, h4⟩ := run_appL w 0 v l hown (some ⟨vb, 0, none⟩) 1 1 [x] rfl (row_oneL hx) (fun h => by cases h) (by omega) (Nat.zero_le _)
  refine ⟨v', w', h1, v', rfl, h2, h3, fun k hk => ?_⟩
  rcases h4 with h4 | h4
  · exact .inl (h4.symm.trans hk)
  · rw [h4] at hk
    cases hk
    exact .inr (Nat.le_refl _)
set_option maxHeartbeats 1600000 in
set_option maxRecDepth 100000 in
theorem insert_end_nil {w : World} {x : Ln} {vb : Nat} (hx : w.heap[vb]? = some (.cells #[.string x.str, .int .u64 (x.id : Nat), .int .u64 (x.ver : Nat), .int .i64 x.line, .int .i64 x.cl] 29 (0, 0))) :
    Calls Tryz.prog 154 #[.slice none 0 0, .int .i64 0, .slice (some ⟨vb, 0, none⟩) 1 1] w (InsTo [x] (.slice none 0 0) w) := by
  obtain ⟨u, w', e1, e2⟩ := insert_run (l := []) (World.ownsRow_nil w 0 29 5) (by simp) hx
  have E1 := Lib.hid e1
  obtain ⟨R, hR⟩ : ∃ R, InsTo [x] (.slice none 0 0) w = R := ⟨_, rfl⟩
  have HFIN : Hid (R (.returned u) w') := by rw [← hR]; exact e2
  rw [hR]
  clear e1 e2 hR hx
  go_enter Tryz.func154, Tryz.ntmps154
  go_wp2_with (at_builtin; refine wpList_app rfl (.tmp 23) (.tmp 24) 104 rfl rfl rfl E1.out ?_)
  exact HFIN.out
set_option maxHeartbeats 1600000 in
set_option maxRecDepth 100000 in
theorem insert_end {w : World} {g n cap : Nat} {l : List Ln} (hn : l.length = n) (hown : w.ownsRow 0 29 5 (.slice (some ⟨g, 0, none⟩) n cap) n (encL l)) (hl : n < 1048576) {x : Ln} {vb : Nat} (hx : w.heap[vb]? = some (.cells #[.string x.str, .int .u64 (x.id : Nat), .int .u64 (x.ver : Nat), .int .i64 x.line, .int .i64 x.cl] 29 (0, 0))) :
    Calls Tryz.prog 154 #[.slice (some ⟨g, 0, none⟩) n cap, .int .i64 (n : Int), .slice (some ⟨vb, 0, none⟩) 1 1] w (InsTo (l ++ [x]) (.slice (some ⟨g, 0, none⟩) n cap) w) := by
  obtain ⟨cur, -, hnc, hcm, -⟩ := own_block hown
  subst hn
  obtain ⟨u, w', e1, e2⟩ := insert_run hown hl hx
  have E1 := Lib.hid e1
  obtain ⟨R, hR⟩ : ∃ R, InsTo (l ++ [x]) (.slice (some ⟨g, 0, none⟩) l.length cap) w = R := ⟨_, rfl⟩
  have HFIN : Hid (R (.returned u) w') := by rw [← hR]; exact e2
  rw [hR]
  clear e1 e2 hR hx hown
  generalize l.length = n at *
  have hmx : cap ≤ 9223372036854775807 := hcm
  have heq : ((n : Int) == (n : Int)) = true := by simp
  have hnc2 : (n : Int) ≤ (cap : Int) := by omega
  by_cases hcn : cap = n
  · subst hcn
    go_enter Tryz.func154, Tryz.ntmps154
    go_wp2_with (at_builtin; refine wpList_app rfl (.tmp 23) (.tmp 24) 104 rfl rfl rfl E1.out ?_)
    exact HFIN.out
  · go_enter Tryz.func154, Tryz.ntmps154
    go_wp2_with (at_builtin; refine wpList_app rfl (.tmp 23) (.tmp 24) 104 rfl rfl rfl E1.out ?_)
    exact HFIN.out

end Go.Proofs.YtlghphccmgmomaaGreat
