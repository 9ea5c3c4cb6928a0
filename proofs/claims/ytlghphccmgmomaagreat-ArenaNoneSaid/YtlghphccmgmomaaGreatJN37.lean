/-
  Proved here, joined: ChD16
  Conditions: as each part says.
-/
import Derived.Test.YtlghphccmgmomaaGreatJN36
import Derived.Test.YtlghphccmgmomaaGreatJN35
import Derived.Test.YtlghphccmgmomaaGreatJN12

/-
  Proved here: numbers past the end, the link of a block, the block that a change writes, package arena.
  Conditions: none.
-/
namespace Go.Proofs.YtlghphccmgmomaaGreat
open Go Go.RowKit
set_option maxRecDepth 100000

set_option linter.unusedSimpArgs false
theorem results_s1 {fn : Func} {t : Tmp} {T : TypeId} {fs : Array Field} (hf : fn.results = #[.cell t T]) (hu : Tryz.prog.underlying T = some (.struct fs)) {tmps : Array Value} {g : Nat} (ht : tmps.getD t undef = .pointer (some ⟨g, 0, none⟩)) {w : World} {cs : List Value} (h : w.heap[g]? = some (.cells cs.toArray T (0, 0))) (hs : (Tryz.prog.info? T).map (·.size) = some cs.length) :
    (results fn tmps).run Tryz.prog w = .ok (.agg cs.toArray) w := by
  have hl := run_loadVar_row (P := Tryz.prog) w g _ T _ _ _ h hu rfl (by simpa using hs)
  have ht' : tmps[t]?.getD undef = .pointer (some ⟨g, 0, none⟩) := by simpa using ht
  simp [results, hf, ht', hl, asAddr]
/-! ### Numbers past the end -/
def pastB (x : BV) : Bool := decide (2305843009213693952 < x.id) || decide (2305843009213693952 < x.ver)
set_option maxHeartbeats 800000 in
theorem past_any (x : BV) (w : World) : Calls Tryz.prog 27 #[.agg #[.int .i64 x.cl, .int .i64 x.kd, .int .u64 (x.id : Nat), .int .u64 (x.ver : Nat), .int .u64 (x.ep : Nat), .string x.key, .string x.val]] w fun e w' => e = .returned (.bool (pastB x)) ∧ Below w.heap.size w w' := by
  have hb : ∀ o, Below w.heap.size w (w.alloc o) := fun o => (Below.refl _ _).alloc (Nat.le_refl _) _
  unfold pastB
  have h1 : decide ((x.id : Int) > 2305843009213693952) = decide (2305843009213693952 < x.id) := by rw [decide_eq_decide]; omega
  have h2 : decide ((x.ver : Int) > 2305843009213693952) = decide (2305843009213693952 < x.ver) := by rw [decide_eq_decide]; omega
  rw [← h1, ← h2]
  clear h1 h2
  generalize (x.id : Int) = i at *
  generalize (x.ver : Int) = v at *
  rcases Classical.em (i > 2305843009213693952) with hi | hi <;> rcases Classical.em (v > 2305843009213693952) with hv | hv
  all_goals
    go_enter Tryz.func27, Tryz.ntmps27
    go_wp2
    go_ret
    refine ⟨?_, hb _⟩
    first | rfl | (simp [hi, hv]; done) | (simp; omega)
/-! ### The link of a block -/
def linkB (line : Int) (x : BV) : Ln := ⟨x.K, x.id, x.ver, line, x.cl⟩
set_option maxHeartbeats 800000 in
theorem linkof_any (line : Int) (x : BV) (w : World) : Calls Tryz.prog 81 #[.int .i64 line, .agg #[.int .i64 x.cl, .int .i64 x.kd, .int .u64 (x.id : Nat), .int .u64 (x.ver : Nat), .int .u64 (x.ep : Nat), .string x.key, .string x.val]] w fun e w' => e = .returned (.agg #[.string x.key, .int .u64 (x.id : Nat), .int .u64 (x.ver : Nat), .int .i64 line, .int .i64 x.cl]) ∧ Below w.heap.size w w' := by
  obtain ⟨g, hg⟩ : ∃ g, w.heap.size = g := ⟨_, rfl⟩
  obtain ⟨w1, hw1⟩ : ∃ w1, w.alloc (.cells #[.int .i64 x.cl, .int .i64 x.kd, .int .u64 (x.id : Nat), .int .u64 (x.ver : Nat), .int .u64 (x.ep : Nat), .string x.key, .string x.val] 95) = w1 := ⟨_, rfl⟩
  have HXg : Hid (Box w1 g x) := by rw [← hw1, ← hg]; exact heap_alloc_new w _
  have HBg : Hid (Below g w w1) := by rw [← hw1, ← hg]; exact (Below.refl _ _).alloc (Nat.le_refl _) _
  obtain ⟨g4, hg4⟩ : ∃ g1, w1.heap.size = g1 := ⟨_, rfl⟩
  have HG4 := Lib.hid hg4
  have HL : Hid (g < g4) := hg4 ▸ lt_of_heap HXg.out
  have HZ := Lib.hid zero_link
  have HGG := Lib.hid hg
  clear hg4
  rw [hg]
  obtain ⟨x0, x1, x2, x3, x4, x5, x6⟩ := x
  obtain ⟨c0, c1, c2, c3, c4, c5, c6⟩ := HXg.out.cells
  simp only
  go_enter Tryz.func81, Tryz.ntmps81
  go_wp2_with (first
    | ((with_reducible show wpList _ _ _ (⟨some 4, .alloc _, _, _, _, _⟩ :: _) _ _); refine wpList_alloc_var (o := ⟨some 4, _, _, _, _, _⟩) rfl 29 rfl g4 HG4.out _ HZ.out ?_; intro v1 H1 B1; clear c0 c1 c2 c3 c4 c5 c6; obtain ⟨c0, c1, c2, c3, c4, c5, c6⟩ := (HXg.out.below B1.out HL.out).cells)
    | ((with_reducible show wpList _ _ _ (⟨none, .store _ (.tmp 4) _, _, _, _, _⟩ :: _) _ _); refine wpList_store_whole (o := ⟨none, .store 29 (.tmp 4) (.tmp 14), _, _, _, _⟩) rfl _ _ _ rfl rfl g4 #[.string x5, .int .u64 x2, .int .u64 x3, .int .i64 line, .int .i64 x0] rfl rfl 29 _ H1.out size_link rfl (onesL _ _ _ _ _) ?_; intro v2 H2 B2)
    | fail)
  refine bodyPost_ret (results_s1 (T := 29) (cs := [_, _, _, _, _]) rfl Tryz.underlying29 rfl H2.out size_link) rfl ⟨rfl, ?_⟩
  exact HBg.out.trans ((B1.out.trans B2.out).mono (Nat.le_of_lt HL.out))
/-! ### The block that a change writes -/
def blkH (c : Ch) (ep id ver : Nat) : BV := if c.kd = 2 then ⟨c.cl, 1, id, ver, ep, c.key, c.val⟩ else if c.kd = 4 then ⟨c.cl, 2, id, ver, ep, ⟨#[]⟩, c.val⟩ else ⟨0, 3, id, ver, ep, ⟨#[]⟩, ⟨#[]⟩⟩
theorem cells7 {w : World} {g : Nat} {T : TypeId} {a b c d e f h : Value} (k : w.heap[g]? = some (.cells #[a, b, c, d, e, f, h] T (0, 0))) : w.cell? ⟨g, 0, none⟩ = some a ∧ w.cell? ⟨g, 1, none⟩ = some b ∧ w.cell? ⟨g, 2, none⟩ = some c ∧ w.cell? ⟨g, 3, none⟩ = some d ∧ w.cell? ⟨g, 4, none⟩ = some e ∧ w.cell? ⟨g, 5, none⟩ = some f ∧ w.cell? ⟨g, 6, none⟩ = some h := by
  refine ⟨?_, ?_, ?_, ?_, ?_, ?_, ?_⟩ <;> simp [World.cell?, k]
theorem onesB (a b c d e : Int) (s t : ByteArray) : (#[.int .i64 a, .int .i64 b, .int .u64 c, .int .u64 d, .int .u64 e, .string s, .string t] : Array Value).all (·.oneCell') = true := all_oneCell_toArray (cs := [.int .i64 a, .int .i64 b, .int .u64 c, .int .u64 d, .int .u64 e, .string s, .string t]) (fun u hu => by
  simp only [List.mem_cons, List.not_mem_nil, or_false] at hu
  rcases hu with rfl | rfl | rfl | rfl | rfl | rfl | rfl <;> rfl)
theorem bset {B p j : Nat} {a w : World} (h : Below B a w) (hp : B ≤ p) (u : Value) : Below B a (w.setCell ⟨p, j, none⟩ u) := h.setCell (p := ⟨p, j, none⟩) hp u
set_option maxHeartbeats 1600000 in
theorem blockof_any (c : Ch) (ep id ver : Nat) (w : World) : Calls Tryz.prog 58 #[.agg #[.int .i64 c.kd, .string c.key, .string c.val, .bool c.had, .string c.old.str, .int .u64 (c.old.id : Nat), .int .u64 (c.old.ver : Nat), .int .i64 c.old.line, .int .i64 c.old.cl, .int .i64 c.line, .int .i64 c.cl], .int .u64 (ep : Nat), .int .u64 (id : Nat), .int .u64 (ver : Nat)] w fun e w' => e = .returned (.agg #[.int .i64 (blkH c ep id ver).cl, .int .i64 (blkH c ep id ver).kd, .int .u64 ((blkH c ep id ver).id : Nat), .int .u64 ((blkH c ep id ver).ver : Nat), .int .u64 ((blkH c ep id ver).ep : Nat), .string (blkH c ep id ver).key, .string (blkH c ep id ver).val]) ∧ Below w.heap.size w w' := by
  obtain ⟨g, hg⟩ : ∃ g, w.heap.size = g := ⟨_, rfl⟩
  obtain ⟨w1, hw1⟩ : ∃ w1, w.alloc (.cells #[.int .i64 c.kd, .string c.key, .string c.val, .bool c.had, .string c.old.str, .int .u64 (c.old.id : Nat), .int .u64 (c.old.ver : Nat), .int .i64 c.old.line, .int .i64 c.old.cl, .int .i64 c.line, .int .i64 c.cl] 31) = w1 := ⟨_, rfl⟩
  have HXg : Hid (HBox w1 g c) := by rw [← hw1, ← hg]; exact heap_alloc_new w _
  have HBg : Hid (Below g w w1) := by rw [← hw1, ← hg]; exact (Below.refl _ _).alloc (Nat.le_refl _) _
  obtain ⟨g4, hg4⟩ : ∃ g1, w1.heap.size = g1 := ⟨_, rfl⟩
  have HG4 := Lib.hid hg4
  have HL : Hid (g < g4) := hg4 ▸ HXg.out.lt
  have HZ := Lib.hid zero_block
  obtain ⟨R, hR⟩ : ∃ R, (fun e w' => e = Ending.returned (.agg #[.int .i64 (blkH c ep id ver).cl, .int .i64 (blkH c ep id ver).kd, .int .u64 ((blkH c ep id ver).id : Nat), .int .u64 ((blkH c ep id ver).ver : Nat), .int .u64 ((blkH c ep id ver).ep : Nat), .string (blkH c ep id ver).key, .string (blkH c ep id ver).val]) ∧ Below w.heap.size w w') = R := ⟨_, rfl⟩
  have HFIN : Hid (∀ x W, blkH c ep id ver = x → Below g w W → R (.returned (.agg #[.int .i64 x.cl, .int .i64 x.kd, .int .u64 (x.id : Nat), .int .u64 (x.ver : Nat), .int .u64 (x.ep : Nat), .string x.key, .string x.val])) W) := fun x W e k => by
    rw [← hR, e, hg]
    exact ⟨rfl, k⟩
  rw [hR]
  clear hg4 hR
  obtain ⟨kd, key, val, had, old, line, cl⟩ := c
  simp only at *
  obtain ⟨c0, c1, c2, c3, c4, c5, c6, c7, c8, c9, c10⟩ := HXg.out.at_
  simp only at c0 c1 c2 c3 c4 c5 c6 c7 c8 c9 c10
  go_enter Tryz.func58, Tryz.ntmps58
  go_upto_region 2 with (first
    | ((with_reducible show wpList _ _ _ (⟨some 8, .alloc _, _, _, _, _⟩ :: _) _ _); refine wpList_alloc_var (o := ⟨some 8, _, _, _, _, _⟩) rfl 95 rfl g4 HG4.out _ HZ.out ?_; intro v1 H1 B1; obtain ⟨g9, hg9⟩ : ∃ g1, v1.heap.size = g1 := ⟨_, rfl⟩; have HG9 := Lib.hid hg9; have HL9 : Hid (g4 < g9) := hg9 ▸ lt_of_heap H1.out)
    | ((with_reducible show wpList _ _ _ (⟨some 9, .alloc _, _, _, _, _⟩ :: _) _ _); refine wpList_alloc_var (o := ⟨some 9, _, _, _, _, _⟩) rfl 95 rfl g9 HG9.out _ HZ.out ?_; intro v2 H2 B2)
    | ((with_reducible show wpList _ _ _ (⟨none, .store _ (.tmp 9) _, _, _, _, _⟩ :: _) _ _); refine wpList_store_whole (o := ⟨none, .store 95 (.tmp 9) (.tmp 13), _, _, _, _⟩) rfl _ _ _ rfl rfl g9 #[.int .i64 0, .int .i64 0, .int .u64 id, .int .u64 ver, .int .u64 ep, .string ⟨#[]⟩, .string ⟨#[]⟩] rfl rfl 95 _ H2.out size_block rfl (onesB _ _ _ _ _ _ _) ?_; intro v3 H3 B3)
    | fail)
  have HL9' : Hid (g < g9) := Nat.lt_trans HL.out HL9.out
  have HX3 : Hid (HBox v3 g ⟨kd, key, val, had, old, line, cl⟩) := ((HXg.out.below B1.out HL.out).below B2.out HL9'.out).below B3.out HL9'.out
  have H43 : Hid (v3.heap[g4]? = some (.cells zeroBV.agg.cells 95 (0, 0))) := (B3.out.block g4 HL9.out).trans ((B2.out.block g4 HL9.out).trans H1.out)
  have HB3 : Hid (Below g w v3) := HBg.out.trans ((B1.out.trans ((B2.out.trans B3.out).mono (Nat.le_of_lt HL9.out))).mono (Nat.le_of_lt HL.out))
  clear c0 c1 c2 c3 c4 c5 c6 c7 c8 c9 c10 hg hw1 hg9
  obtain ⟨c0, c1, c2, c3, c4, c5, c6, c7, c8, c9, c10⟩ := HX3.out.at_
  simp only at c0 c1 c2 c3 c4 c5 c6 c7 c8 c9 c10
  clear HXg HBg H1 H2 B1 B2 B3 HG4 HG9
  obtain ⟨q0, q1, q2, q3, q4, q5, q6⟩ := cells7 H3.out
  have z0 : v3.frozen? ⟨g9, 0, none⟩ = false := (by { have hh := H3.out; simp [World.frozen?, hh] })
  have z1 : v3.frozen? ⟨g9, 1, none⟩ = false := (by { have hh := H3.out; simp [World.frozen?, hh] })
  have z5 : v3.frozen? ⟨g9, 5, none⟩ = false := (by { have hh := H3.out; simp [World.frozen?, hh] })
  have z6 : v3.frozen? ⟨g9, 6, none⟩ = false := (by { have hh := H3.out; simp [World.frozen?, hh] })
  have d1 : ¬ g = g9 := Nat.ne_of_lt HL9'.out
  have d2 : ¬ g9 = g := fun e => d1 e.symm
  rcases Classical.em (kd = 2) with rfl | k2
  · have HBK : Hid (blkH ⟨2, key, val, had, old, line, cl⟩ ep id ver = ⟨cl, 1, id, ver, ep, key, val⟩) := rfl
    go_upto_region 5 with fail
    go_region
    all_goals
      obtain ⟨x, hx⟩ : ∃ x, (((v3.setCell ⟨g9, 0, none⟩ (.int .i64 cl)).setCell ⟨g9, 1, none⟩ (.int .i64 1)).setCell ⟨g9, 5, none⟩ (.string key)).setCell ⟨g9, 6, none⟩ (.string val) = x := ⟨_, rfl⟩
      rw [hx]
      have HX9 : Hid (Box x g9 ⟨cl, 1, id, ver, ep, key, val⟩) := by
        rw [← hx]
        exact heap_setCell_same _ g9 6 _ _ _ (heap_setCell_same _ g9 5 _ _ _ (heap_setCell_same _ g9 1 _ _ _ (heap_setCell_same _ g9 0 _ _ _ H3.out)))
      have HBx : Hid (Below g9 v3 x) := by
        rw [← hx]
        exact bset (bset (bset (bset (Below.refl _ _) (Nat.le_refl _) _) (Nat.le_refl _) _) (Nat.le_refl _) _) (Nat.le_refl _) _
      have H4x : Hid (x.heap[g4]? = some (.cells zeroBV.agg.cells 95 (0, 0))) := (HBx.out.block g4 HL9.out).trans H43.out
      clear hx q0 q1 q2 q3 q4 q5 q6 z0 z1 z5 z6 c0 c1 c2 c3 c4 c5 c6 c7 c8 c9 c10
      obtain ⟨q0, q1, q2, q3, q4, q5, q6⟩ := HX9.out.cells
      go_wp2_with (first
        | ((with_reducible show wpList _ _ _ (⟨none, .store _ (.tmp 8) _, _, _, _, _⟩ :: _) _ _); refine wpList_store_whole (o := ⟨none, .store 95 (.tmp 8) (.tmp 38), _, _, _, _⟩) rfl _ _ _ rfl rfl g4 #[.int .i64 cl, .int .i64 1, .int .u64 id, .int .u64 ver, .int .u64 ep, .string key, .string val] rfl rfl 95 _ H4x.out size_block rfl (onesB _ _ _ _ _ _ _) ?_; intro v5 H5 B5)
        | fail)
      refine bodyPost_ret (results_s1 (T := 95) (cs := [_, _, _, _, _, _, _]) rfl Tryz.underlying95 rfl H5.out size_block) rfl ?_
      exact HFIN.out _ _ HBK.out (HB3.out.trans ((HBx.out.mono (Nat.le_of_lt HL9'.out)).drew.trans (B5.out.mono (Nat.le_of_lt HL.out))))
  · rcases Classical.em (kd = 4) with rfl | k4
    · have HBK : Hid (blkH ⟨4, key, val, had, old, line, cl⟩ ep id ver = ⟨cl, 2, id, ver, ep, ⟨#[]⟩, val⟩) := rfl
      go_upto_region 7 with fail
      go_region
      all_goals
        obtain ⟨x, hx⟩ : ∃ x, (((v3.setCell ⟨g9, 0, none⟩ (.int .i64 cl)).setCell ⟨g9, 1, none⟩ (.int .i64 2))).setCell ⟨g9, 6, none⟩ (.string val) = x := ⟨_, rfl⟩
        rw [hx]
        have HX9 : Hid (Box x g9 ⟨cl, 2, id, ver, ep, ⟨#[]⟩, val⟩) := by
          rw [← hx]
          exact heap_setCell_same _ g9 6 _ _ _ (heap_setCell_same _ g9 1 _ _ _ (heap_setCell_same _ g9 0 _ _ _ H3.out))
        have HBx : Hid (Below g9 v3 x) := by
          rw [← hx]
          exact bset (bset (bset (Below.refl _ _) (Nat.le_refl _) _) (Nat.le_refl _) _) (Nat.le_refl _) _
        have H4x : Hid (x.heap[g4]? = some (.cells zeroBV.agg.cells 95 (0, 0))) := (HBx.out.block g4 HL9.out).trans H43.out
        clear hx q0 q1 q2 q3 q4 q5 q6 z0 z1 z5 z6 c0 c1 c2 c3 c4 c5 c6 c7 c8 c9 c10
        obtain ⟨q0, q1, q2, q3, q4, q5, q6⟩ := HX9.out.cells
        go_wp2_with (first
          | ((with_reducible show wpList _ _ _ (⟨none, .store _ (.tmp 8) _, _, _, _, _⟩ :: _) _ _); refine wpList_store_whole (o := ⟨none, .store 95 (.tmp 8) (.tmp 38), _, _, _, _⟩) rfl _ _ _ rfl rfl g4 #[.int .i64 cl, .int .i64 2, .int .u64 id, .int .u64 ver, .int .u64 ep, .string ⟨#[]⟩, .string val] rfl rfl 95 _ H4x.out size_block rfl (onesB _ _ _ _ _ _ _) ?_; intro v5 H5 B5)
          | fail)
        refine bodyPost_ret (results_s1 (T := 95) (cs := [_, _, _, _, _, _, _]) rfl Tryz.underlying95 rfl H5.out size_block) rfl ?_
        exact HFIN.out _ _ HBK.out (HB3.out.trans ((HBx.out.mono (Nat.le_of_lt HL9'.out)).drew.trans (B5.out.mono (Nat.le_of_lt HL.out))))
    · have HBK : Hid (blkH ⟨kd, key, val, had, old, line, cl⟩ ep id ver = ⟨0, 3, id, ver, ep, ⟨#[]⟩, ⟨#[]⟩⟩) := by show _ = _; unfold blkH; rw [if_neg k2, if_neg k4]
      have y2 : (kd == 2) = false := by simpa using k2
      have y4 : (kd == 4) = false := by simpa using k4
      go_upto_region 8 with fail
      all_goals
        obtain ⟨x, hx⟩ : ∃ x, v3.setCell ⟨g9, 1, none⟩ (.int .i64 3) = x := ⟨_, rfl⟩
        rw [hx]
        have HX9 : Hid (Box x g9 ⟨0, 3, id, ver, ep, ⟨#[]⟩, ⟨#[]⟩⟩) := by
          rw [← hx]
          exact heap_setCell_same _ g9 1 _ _ _ H3.out
        have HBx : Hid (Below g9 v3 x) := by
          rw [← hx]
          exact bset (Below.refl _ _) (Nat.le_refl _) _
        have H4x : Hid (x.heap[g4]? = some (.cells zeroBV.agg.cells 95 (0, 0))) := (HBx.out.block g4 HL9.out).trans H43.out
        clear hx q0 q1 q2 q3 q4 q5 q6 z0 z1 z5 z6 c0 c1 c2 c3 c4 c5 c6 c7 c8 c9 c10
        obtain ⟨q0, q1, q2, q3, q4, q5, q6⟩ := HX9.out.cells
        go_wp2_with (first
          | ((with_reducible show wpList _ _ _ (⟨none, .store _ (.tmp 8) _, _, _, _, _⟩ :: _) _ _); refine wpList_store_whole (o := ⟨none, .store 95 (.tmp 8) (.tmp 38), _, _, _, _⟩) rfl _ _ _ rfl rfl g4 #[.int .i64 0, .int .i64 3, .int .u64 id, .int .u64 ver, .int .u64 ep, .string ⟨#[]⟩, .string ⟨#[]⟩] rfl rfl 95 _ H4x.out size_block rfl (onesB _ _ _ _ _ _ _) ?_; intro v5 H5 B5)
          | fail)
        refine bodyPost_ret (results_s1 (T := 95) (cs := [_, _, _, _, _, _, _]) rfl Tryz.underlying95 rfl H5.out size_block) rfl ?_
        exact HFIN.out _ _ HBK.out (HB3.out.trans ((HBx.out.mono (Nat.le_of_lt HL9'.out)).trans (B5.out.mono (Nat.le_of_lt HL.out))))

end Go.Proofs.YtlghphccmgmomaaGreat
