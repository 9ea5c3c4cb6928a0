/-
  Proved here: what the table's Set answers and leaves.
  Conditions: keys of at most 2^30 bytes; fewer than 2^20 links.
-/
import Derived.Test.YtjehklmbgldfpaaTabD
import Derived.Deep.RegionHeld3
import Derived.StillTailTactics
namespace Go.Proofs.Ytjehklmbgldfpaa
open Go Go.RowKit
set_option maxRecDepth 100000

set_option maxHeartbeats 400000 in
theorem tbset_nil (x : Ln) (w : World) : Calls Try.prog 11 #[.pointer none, .agg #[.string x.str, .int .u64 (x.id : Nat), .int .u64 (x.ver : Nat), .int .i64 x.line, .int .i64 x.cl]] w fun y w' => y = .returned (.bool false) ∧ Below w.heap.size w w' := by
  have HB : Hid (Below w.heap.size w (w.alloc (.cells #[.string x.str, .int .u64 (x.id : Nat), .int .u64 (x.ver : Nat), .int .i64 x.line, .int .i64 x.cl] 33))) := (Below.refl _ _).alloc (Nat.le_refl _) _
  generalize x.str = x0 at *
  generalize (x.id : Int) = x1 at *
  generalize (x.ver : Int) = x2 at *
  generalize x.line = x3 at *
  generalize x.cl = x4 at *
  go_enter Try.func11, Try.ntmps11
  go_wp2
  go_ret
  exact ⟨rfl, HB.out⟩
set_option maxHeartbeats 1600000 in
theorem tbset_any {w : World} {p : Nat} {m : Nat → Option Nat} {L : List Ln} (h : Tb w p m L) (x : Ln) (hx : x.k.length ≤ 1073741824) (hl : L.length < 1048576) :
    Calls Try.prog 11 #[.pointer (some ⟨p, 0, none⟩), .agg #[.string x.str, .int .u64 (x.id : Nat), .int .u64 (x.ver : Nat), .int .i64 x.line, .int .i64 x.cl]] w fun y w' => y = .returned (.bool (hasT L x.k)) ∧ TbTo w p m (setT L x) w' := by
  obtain ⟨g, hg⟩ : ∃ g, w.heap.size = g := ⟨_, rfl⟩
  have HG := Lib.hid hg
  have hsz : x.str.size ≤ 1073741824 := by show x.k.toArray.size ≤ _; simpa using hx
  have hsk : x.str.data.toList = x.k := rfl
  obtain ⟨w1, hw1⟩ : ∃ w1, w.alloc (.cells #[.string x.str, .int .u64 (x.id : Nat), .int .u64 (x.ver : Nat), .int .i64 x.line, .int .i64 x.cl] 33) = w1 := ⟨_, rfl⟩
  have hb1 : Below g w w1 := by rw [← hw1, ← hg]; exact (Below.refl _ _).alloc (Nat.le_refl _) _
  have hx1 : LBox w1 g x := by rw [← hw1, ← hg]; exact heap_alloc_new w _
  have HB1 := Lib.hid hb1
  have HX1 : Hid (w1.heap[g]? = some (.cells #[.string x.str, .int .u64 (x.id : Nat), .int .u64 (x.ver : Nat), .int .i64 x.line, .int .i64 x.cl] 33 (0, 0))) := hx1
  have HBK := Lib.hid (bucket_any x.str hsz w1)
  rw [hsk] at HBK
  obtain ⟨R, hR⟩ : ∃ R : Ending → World → Prop, (fun y w' => y = .returned (.bool (hasT L x.k)) ∧ TbTo w p m (setT L x) w') = R := ⟨_, rfl⟩
  rw [hR]
  have hb8 := bkt_lt x.k
  have hbk8 : addS 0 x.k % 8 < 8 := hb8
  have hlk : ∀ {w' : World} {m' : Nat → Option Nat}, Tb w' p m' L → ∀ w5, Below w'.heap.size w' w5 → (Instr.lookup 48 (.map (m' (bkt x.k))) (.string x.str) true).run Try.prog w5 = .ok (.tuple #[(linkT L x.k).agg, .bool (hasT L x.k)]) w5 := fun ht w5 hb => by
    have := ht.look hb x.str hsz
    rwa [hsk] at this
  cases hm : m (bkt x.k) with
  | some b =>
    have HC0 : Hid (∀ w2, Below w1.heap.size w1 w2 → ∀ w5, Below w2.heap.size w2 w5 → w5.cell? ⟨p, bkt x.k, none⟩ = some (.map (some b)) ∧ w5.heap[g]? = some (.cells #[.string x.str, .int .u64 (x.id : Nat), .int .u64 (x.ver : Nat), .int .i64 x.line, .int .i64 x.cl] 33 (0, 0)) ∧
        (Instr.lookup 48 (.map (some b)) (.string x.str) true).run Try.prog w5 = .ok (.tuple #[(linkT L x.k).agg, .bool (hasT L x.k)]) w5 ∧
        ∃ w7, (Instr.mapUpdate 48 (.map (some b)) (.string x.str) (.agg #[.string x.str, .int .u64 (x.id : Nat), .int .u64 (x.ver : Nat), .int .i64 x.line, .int .i64 x.cl])).run Try.prog w5.drew = .ok () w7 ∧ R (.returned (.bool (hasT L x.k))) w7) := fun w2 hb2 w5 hb5 => by
      have hbb : Below w.heap.size w w2 := hg.symm ▸ hb1.trans (hb2.mono (Nat.le_of_lt (lt_of_heap hx1)))
      have t2 := h.below hbb
      have t5 := t2.below hb5
      have hc := t5.cell hb8
      rw [hm] at hc
      have hlt2 : g < w2.heap.size := Nat.lt_of_lt_of_le (lt_of_heap hx1) hb2.size
      have hlook := hlk t2 w5 hb5
      rw [hm] at hlook
      obtain ⟨w7, e1, e2, e3⟩ := (t5.drewN 1).sets x hx hm hl
      refine ⟨hc, (hb5.block g hlt2).trans ((hb2.block g (lt_of_heap hx1)).trans hx1), hlook, w7, e1, ?_⟩
      rw [← hR]
      exact ⟨rfl, tbset_old hbb (hb5.trans (below_drewN (Below.refl _ _) 1)) e2 e3 h⟩

    clear hlk h hx hl hsz hsk hb1 hx1 hm hR hb8
    obtain ⟨bk, hbk⟩ : ∃ bk, addS 0 x.k % 8 = bk := ⟨_, rfl⟩
    have hbe : bkt x.k = bk := hbk
    rw [hbk] at HBK hbk8
    rw [hbe] at HC0
    clear hbk hbe
    have hbi : (bk : Int) < 8 := by omega
    obtain ⟨u, hu⟩ : ∃ u, linkT L x.k = u := ⟨_, rfl⟩
    rw [hu] at HC0
    unfold Ln.agg at HC0
    generalize hasT L x.k = had at *
    generalize u.str = u0 at *
    generalize (u.id : Int) = u1 at *
    generalize (u.ver : Int) = u2 at *
    generalize u.line = u3 at *
    generalize u.cl = u4 at *
    generalize x.str = x0 at *
    generalize (x.id : Int) = x1 at *
    generalize (x.ver : Int) = x2 at *
    generalize x.line = x3 at *
    generalize x.cl = x4 at *
    have HZ := Lib.hid zero_link
    clear hu
    go_enter Try.func11, Try.ntmps11
    obtain ⟨x0', x1', x2', x3', x4'⟩ := cellsL HX1.out
    go_wp2_with fail
    refine HBK.out.mono ?_
    clear hw1 hg
    rintro e w2 ⟨rfl, hb2⟩
    have HC := Lib.hid (HC0.out w2 hb2)
    obtain ⟨hc2, hx2, _, _⟩ := HC.out w2 (Below.refl _ _)
    have HX2 := Lib.hid hx2
    have heq : Sem.run Try.prog (binOp .eql 48 (.map (some b)) (.map none)) w2 = .ok (.bool false) w2 := run_eql_map_nil w2 48 _ _ (some b) Try.underlying48
    clear hb2 hx2
    go_wp2
    obtain ⟨hc3, hb3, hl3, _⟩ := HC.out w2 (Below.refl _ _)
    obtain ⟨w5, hw5⟩ : ∃ w5, (w2.alloc (.cells #[.string u0, .int .u64 u1, .int .u64 u2, .int .i64 u3, .int .i64 u4] 33)).drew = w5 := ⟨_, rfl⟩
    have HB5 : Hid (Below w2.heap.size w2 w5) := by rw [← hw5]; exact below_drewN ((Below.refl _ _).alloc (Nat.le_refl _) _) 1
    have HW5 := Lib.hid hw5
    obtain ⟨c5, b5, _, w7, r7, f7⟩ := HC.out w5 HB5.out
    have c5' : w5.drew.cell? ⟨p, bk, none⟩ = some (.map (some b)) := c5
    obtain ⟨d0, d1, d2, d3, d4⟩ := cellsL (w := w5.drew) b5
    have F7 := Lib.hid f7
    clear hw5 f7 c5 b5
    have hs3 : ∀ w', Below w2.heap.size w2 w' → w'.cell? ⟨p, bk, none⟩ = some (.map (some b)) ∧ w'.cell? ⟨g, 0, none⟩ = some (.string x0) ∧ Sem.run Try.prog (Instr.lookup 48 (.map (some b)) (.string x0) true) w' = .ok (.tuple #[.agg #[.string u0, .int .u64 u1, .int .u64 u2, .int .i64 u3, .int .i64 u4], .bool had]) w' := fun w' hb => ⟨(HC.out w' hb).1, (cellsL (HC.out w' hb).2.1).1, (HC.out w' hb).2.2.1⟩
    have HS3 := Lib.hid hs3
    obtain ⟨e1, e2, e3⟩ := hs3 w2.drew (below_drewN (Below.refl _ _) 1)
    clear hs3
    go_region_held3 (fun w' => w'.cell? ⟨p, bk, none⟩ = some (.map (some b)) ∧ w'.cell? ⟨g, 0, none⟩ = some (.string x0) ∧ Sem.run Try.prog (Instr.lookup 48 (.map (some b)) (.string x0) true) w' = .ok (.tuple #[.agg #[.string u0, .int .u64 u1, .int .u64 u2, .int .i64 u3, .int .i64 u4], .bool had]) w')
      (first | exact HS3.out _ (below_drewN (Below.refl _ _) 1) | exact HS3.out _ ((below_drewN (Below.refl _ _) 1).alloc (Nat.le_refl _) _) | (trace_state; fail))
      (fail)
    all_goals
      rw [HW5.out]
      go_wp2
      refine wp_region_still_tail 9 (by kernel_rfl) (by kernel_rfl) ?_
      change wpStill _ _ w5.drew _ _ _
      iterate 9 still_step
      refine wpStill_nil ?_
      change wpList _ _ _ _ _ w5.drew
      go_wp2
      exact F7.out
  | none =>
    have HC0 : Hid (∀ w2, Below w1.heap.size w1 w2 → ∀ b, w2.heap.size = b → ∃ w3, (w2.alloc (.map #[] 0)).setCell ⟨p, bkt x.k, none⟩ (.map (some b)) = w3 ∧ w2.cell? ⟨p, bkt x.k, none⟩ = some (.map none) ∧ (w2.alloc (.map #[] 0)).cell? ⟨p, bkt x.k, none⟩ = some (.map none) ∧ (w2.alloc (.map #[] 0)).frozen? ⟨p, bkt x.k, none⟩ = false ∧
        ∀ w5, Below w3.heap.size w3 w5 → w5.cell? ⟨p, bkt x.k, none⟩ = some (.map (some b)) ∧ w5.heap[g]? = some (.cells #[.string x.str, .int .u64 (x.id : Nat), .int .u64 (x.ver : Nat), .int .i64 x.line, .int .i64 x.cl] 33 (0, 0)) ∧
        (Instr.lookup 48 (.map (some b)) (.string x.str) true).run Try.prog w5 = .ok (.tuple #[(linkT L x.k).agg, .bool (hasT L x.k)]) w5 ∧
        ∃ w7, (Instr.mapUpdate 48 (.map (some b)) (.string x.str) (.agg #[.string x.str, .int .u64 (x.id : Nat), .int .u64 (x.ver : Nat), .int .i64 x.line, .int .i64 x.cl])).run Try.prog w5.drew = .ok () w7 ∧ R (.returned (.bool (hasT L x.k))) w7) := fun w2 hb2 b hbz => by
      have hbb : Below w.heap.size w w2 := hg.symm ▸ hb1.trans (hb2.mono (Nat.le_of_lt (lt_of_heap hx1)))
      have t2 := h.below hbb
      have hlt2 : g < w2.heap.size := Nat.lt_of_lt_of_le (lt_of_heap hx1) hb2.size
      have hpl : p < w2.heap.size := lt_of_heap t2.mem
      have t3 := t2.made hb8 hm
      rw [hbz] at t3
      have hc := t2.cell hb8
      rw [hm] at hc
      have ta := t2.below ((Below.refl _ _).alloc (Nat.le_refl _) (.map #[] 0))
      have hca := ta.cell hb8
      rw [hm] at hca
      have h3s : Stay (fun k => k = p) w2 ((w2.alloc (.map #[] 0)).setCell ⟨p, bkt x.k, none⟩ (.map (some b))) := (Stay.of_below ((Below.refl _ _).alloc (Nat.le_refl _) _)).trans (Stay.setCell _ _ _ _ rfl)
      have hgp : g ≠ p := by have := lt_of_heap h.mem; omega
      refine ⟨_, rfl, hc, hca, ta.frozen _, fun w5 hb5 => ?_⟩
      have t5 := t3.below hb5
      have hc5 := t5.cell hb8
      simp only [if_true] at hc5
      have hlook := hlk t3 w5 hb5
      simp only [if_true] at hlook
      obtain ⟨w7, e1, e2, e3⟩ := (t5.drewN 1).sets (b := b) x hx (by simp) hl
      refine ⟨hc5, (hb5.block g (Nat.lt_of_lt_of_le hlt2 h3s.size)).trans ((h3s.block g hgp hlt2).trans ((hb2.block g (lt_of_heap hx1)).trans hx1)), hlook, w7, e1, ?_⟩
      rw [← hR]
      exact ⟨rfl, tbset_new hbb hbz h3s (hb5.trans (below_drewN (Below.refl _ _) 1)) e2 e3 h⟩

    clear hlk h hx hl hsz hsk hb1 hx1 hm hR hb8
    obtain ⟨bk, hbk⟩ : ∃ bk, addS 0 x.k % 8 = bk := ⟨_, rfl⟩
    have hbe : bkt x.k = bk := hbk
    rw [hbk] at HBK hbk8
    rw [hbe] at HC0
    clear hbk hbe
    have hbi : (bk : Int) < 8 := by omega
    obtain ⟨u, hu⟩ : ∃ u, linkT L x.k = u := ⟨_, rfl⟩
    rw [hu] at HC0
    unfold Ln.agg at HC0
    generalize hasT L x.k = had at *
    generalize u.str = u0 at *
    generalize (u.id : Int) = u1 at *
    generalize (u.ver : Int) = u2 at *
    generalize u.line = u3 at *
    generalize u.cl = u4 at *
    generalize x.str = x0 at *
    generalize (x.id : Int) = x1 at *
    generalize (x.ver : Int) = x2 at *
    generalize x.line = x3 at *
    generalize x.cl = x4 at *
    have HZ := Lib.hid zero_link
    clear hu
    go_enter Try.func11, Try.ntmps11
    obtain ⟨x0', x1', x2', x3', x4'⟩ := cellsL HX1.out
    go_wp2_with fail
    refine HBK.out.mono ?_
    clear hw1 hg
    rintro e w2 ⟨rfl, hb2⟩
    obtain ⟨b, hbz⟩ : ∃ b, w2.heap.size = b := ⟨_, rfl⟩
    obtain ⟨w3, hw3, hc2, hca, hfa, hc⟩ := HC0.out w2 hb2 b hbz
    have HC := Lib.hid hc
    have heq : Sem.run Try.prog (binOp .eql 48 (.map none) (.map none)) w2 = .ok (.bool true) w2 := run_eql_map_nil w2 48 _ _ none Try.underlying48
    have hmm := @run_makeMap Try.prog
    clear hb2 hc
    go_wp2
    clear hmm hw3 hbz hc2 hca hfa heq
    obtain ⟨hc3, hb3, hl3, _⟩ := HC.out w3 (Below.refl _ _)
    obtain ⟨w5, hw5⟩ : ∃ w5, (w3.alloc (.cells #[.string u0, .int .u64 u1, .int .u64 u2, .int .i64 u3, .int .i64 u4] 33)).drew = w5 := ⟨_, rfl⟩
    have HB5 : Hid (Below w3.heap.size w3 w5) := by rw [← hw5]; exact below_drewN ((Below.refl _ _).alloc (Nat.le_refl _) _) 1
    have HW5 := Lib.hid hw5
    obtain ⟨c5, b5, _, w7, r7, f7⟩ := HC.out w5 HB5.out
    have c5' : w5.drew.cell? ⟨p, bk, none⟩ = some (.map (some b)) := c5
    obtain ⟨d0, d1, d2, d3, d4⟩ := cellsL (w := w5.drew) b5
    have F7 := Lib.hid f7
    clear hw5 f7 c5 b5
    have hs3 : ∀ w', Below w3.heap.size w3 w' → w'.cell? ⟨p, bk, none⟩ = some (.map (some b)) ∧ w'.cell? ⟨g, 0, none⟩ = some (.string x0) ∧ Sem.run Try.prog (Instr.lookup 48 (.map (some b)) (.string x0) true) w' = .ok (.tuple #[.agg #[.string u0, .int .u64 u1, .int .u64 u2, .int .i64 u3, .int .i64 u4], .bool had]) w' := fun w' hb => ⟨(HC.out w' hb).1, (cellsL (HC.out w' hb).2.1).1, (HC.out w' hb).2.2.1⟩
    have HS3 := Lib.hid hs3
    obtain ⟨e1, e2, e3⟩ := hs3 w3.drew (below_drewN (Below.refl _ _) 1)
    clear hs3
    go_region_held3 (fun w' => w'.cell? ⟨p, bk, none⟩ = some (.map (some b)) ∧ w'.cell? ⟨g, 0, none⟩ = some (.string x0) ∧ Sem.run Try.prog (Instr.lookup 48 (.map (some b)) (.string x0) true) w' = .ok (.tuple #[.agg #[.string u0, .int .u64 u1, .int .u64 u2, .int .i64 u3, .int .i64 u4], .bool had]) w')
      (first | exact HS3.out _ (below_drewN (Below.refl _ _) 1) | exact HS3.out _ ((below_drewN (Below.refl _ _) 1).alloc (Nat.le_refl _) _) | (trace_state; fail))
      (fail)
    all_goals
      rw [HW5.out]
      go_wp2
      refine wp_region_still_tail 9 (by kernel_rfl) (by kernel_rfl) ?_
      change wpStill _ _ w5.drew _ _ _
      iterate 9 still_step
      refine wpStill_nil ?_
      change wpList _ _ _ _ _ w5.drew
      go_wp2
      exact F7.out

end Go.Proofs.Ytjehklmbgldfpaa
