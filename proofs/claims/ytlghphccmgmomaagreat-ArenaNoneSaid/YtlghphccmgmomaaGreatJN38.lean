/-
  Proved here, joined: ChE16, ChF16
  Conditions: as each part says.
-/
import Derived.Test.YtlghphccmgmomaaGreatJN37
import Derived.Test.YtlghphccmgmomaaGreatJN32

/-
  Proved here: the effect of a change, package arena.
  Conditions: none.
-/
namespace Go.Proofs.YtlghphccmgmomaaGreat
open Go Go.RowKit
set_option maxRecDepth 100000

/-! ### The effect of a change -/
def effH (c : Ch) (x : BV) (gp : Nat) : Ef := ⟨if c.kd = 2 then 1 else if c.kd = 3 then 2 else if c.kd = 4 then 3 else if c.kd = 5 then 4 else 0, if c.kd = 3 then c.key else x.key, x.val, x.id, x.ver, x.ep, gp⟩
set_option maxHeartbeats 1600000 in
theorem effectof_any (c : Ch) (x : BV) (gp : Nat) (hgp : gp < 9223372036854775808) (w : World) : Calls Tryz.prog 64 #[.agg #[.int .i64 c.kd, .string c.key, .string c.val, .bool c.had, .string c.old.str, .int .u64 (c.old.id : Nat), .int .u64 (c.old.ver : Nat), .int .i64 c.old.line, .int .i64 c.old.cl, .int .i64 c.line, .int .i64 c.cl], .agg #[.int .i64 x.cl, .int .i64 x.kd, .int .u64 (x.id : Nat), .int .u64 (x.ver : Nat), .int .u64 (x.ep : Nat), .string x.key, .string x.val], .int .u64 (gp : Nat)] w fun e w' => e = .returned (.agg #[.int .i64 (effH c x gp).kd, .string (effH c x gp).key, .string (effH c x gp).val, .int .u64 (effH c x gp).id, .int .u64 (effH c x gp).ver, .int .u64 (effH c x gp).ep, .int .i64 (effH c x gp).gp]) ∧ Below w.heap.size w w' := by
  obtain ⟨g, hg⟩ : ∃ g, w.heap.size = g := ⟨_, rfl⟩
  obtain ⟨w1, hw1⟩ : ∃ w1, w.alloc (.cells #[.int .i64 c.kd, .string c.key, .string c.val, .bool c.had, .string c.old.str, .int .u64 (c.old.id : Nat), .int .u64 (c.old.ver : Nat), .int .i64 c.old.line, .int .i64 c.old.cl, .int .i64 c.line, .int .i64 c.cl] 31) = w1 := ⟨_, rfl⟩
  have HXg : Hid (HBox w1 g c) := by rw [← hw1, ← hg]; exact heap_alloc_new w _
  have HBg : Hid (Below g w w1) := by rw [← hw1, ← hg]; exact (Below.refl _ _).alloc (Nat.le_refl _) _
  obtain ⟨gb, hgb⟩ : ∃ g1, w1.heap.size = g1 := ⟨_, rfl⟩
  have HLb : Hid (g < gb) := hgb ▸ HXg.out.lt
  obtain ⟨w2, hw2⟩ : ∃ w2, w1.alloc (.cells #[.int .i64 x.cl, .int .i64 x.kd, .int .u64 (x.id : Nat), .int .u64 (x.ver : Nat), .int .u64 (x.ep : Nat), .string x.key, .string x.val] 95) = w2 := ⟨_, rfl⟩
  have HXb : Hid (Box w2 gb x) := by rw [← hw2, ← hgb]; exact heap_alloc_new w1 _
  have HBb : Hid (Below gb w1 w2) := by rw [← hw2, ← hgb]; exact (Below.refl _ _).alloc (Nat.le_refl _) _
  obtain ⟨g4, hg4⟩ : ∃ g1, w2.heap.size = g1 := ⟨_, rfl⟩
  have HG4 := Lib.hid hg4
  have HL4 : Hid (gb < g4) := hg4 ▸ HXb.out.lt
  have HZ := Lib.hid zero_eff
  have HGP : Hid (gp < 9223372036854775808) := hgp
  obtain ⟨R, hR⟩ : ∃ R, (fun e w' => e = Ending.returned (.agg #[.int .i64 (effH c x gp).kd, .string (effH c x gp).key, .string (effH c x gp).val, .int .u64 (effH c x gp).id, .int .u64 (effH c x gp).ver, .int .u64 (effH c x gp).ep, .int .i64 (effH c x gp).gp]) ∧ Below w.heap.size w w') = R := ⟨_, rfl⟩
  have HFIN : Hid (∀ y W, effH c x gp = y → Below g w W → R (.returned (.agg #[.int .i64 y.kd, .string y.key, .string y.val, .int .u64 y.id, .int .u64 y.ver, .int .u64 y.ep, .int .i64 y.gp])) W) := fun x W e k => by
    rw [← hR, e, hg]
    exact ⟨rfl, k⟩
  rw [hR]
  clear hg4 hR hgp
  obtain ⟨kd, key, val, had, old, line, cl⟩ := c
  obtain ⟨x0, x1, x2, x3, x4, x5, x6⟩ := x
  simp only at *
  obtain ⟨c0, c1, c2, c3, c4, c5, c6, c7, c8, c9, c10⟩ := (HXg.out.below HBb.out HLb.out).at_
  obtain ⟨p0, p1, p2, p3, p4, p5, p6⟩ := HXb.out.cells
  simp only at c0 c1 c2 c3 c4 c5 c6 c7 c8 c9 c10
  have hlt : (gp : Int) < 9223372036854775808 := by have := HGP.out; omega
  have hge : (0 : Int) ≤ (gp : Int) := by omega
  go_enter Tryz.func64, Tryz.ntmps64
  go_upto_region 2 with (first
    | ((with_reducible show wpList _ _ _ (⟨some 6, .alloc _, _, _, _, _⟩ :: _) _ _); refine wpList_alloc_var (o := ⟨some 6, _, _, _, _, _⟩) rfl 112 rfl g4 HG4.out _ HZ.out ?_; intro v1 H1 B1; obtain ⟨g9, hg9⟩ : ∃ g1, v1.heap.size = g1 := ⟨_, rfl⟩; have HG9 := Lib.hid hg9; have HL9 : Hid (g4 < g9) := hg9 ▸ lt_of_heap H1.out; clear c0 c1 c2 c3 c4 c5 c6 c7 c8 c9 c10 p0 p1 p2 p3 p4 p5 p6; have HB1 : Hid (Below gb w1 v1) := HBb.out.trans (B1.out.mono (Nat.le_of_lt HL4.out)); have HXg1 := Lib.hid (HXg.out.below HB1.out HLb.out); have HXb1 := Lib.hid (HXb.out.below B1.out HL4.out); obtain ⟨p0, p1, p2, p3, p4, p5, p6⟩ := HXb1.out.cells)
    | ((with_reducible show wpList _ _ _ (⟨some 7, .alloc _, _, _, _, _⟩ :: _) _ _); refine wpList_alloc_var (o := ⟨some 7, _, _, _, _, _⟩) rfl 112 rfl g9 HG9.out _ HZ.out ?_; intro v2 H2 B2)
    | ((with_reducible show wpList _ _ _ (⟨none, .store _ (.tmp 7) _, _, _, _, _⟩ :: _) _ _); refine wpList_store_whole (o := ⟨none, .store 112 (.tmp 7) (.tmp 20), _, _, _, _⟩) rfl _ _ _ rfl rfl g9 #[.int .i64 0, .string x5, .string x6, .int .u64 x2, .int .u64 x3, .int .u64 x4, .int .i64 gp] rfl rfl 112 _ H2.out size_eff rfl (onesE _ _ _ _ _ _ _) ?_; intro v3 H3 B3)
    | fail)
  have HLX : Hid (g < g9 ∧ g < g4 ∧ gb < g9) := ⟨by have := HLb.out; have := HL4.out; have := HL9.out; omega, by have := HLb.out; have := HL4.out; omega, by have := HL4.out; have := HL9.out; omega⟩
  have HX3 : Hid (HBox v3 g ⟨kd, key, val, had, old, line, cl⟩) := (HXg1.out.below B2.out HLX.out.1).below B3.out HLX.out.1
  have H43 : Hid (v3.heap[g4]? = some (.cells (Value.cells (.agg #[.int .i64 0, .string ⟨#[]⟩, .string ⟨#[]⟩, .int .u64 0, .int .u64 0, .int .u64 0, .int .i64 0])) 112 (0, 0))) := (B3.out.block g4 HL9.out).trans ((B2.out.block g4 HL9.out).trans H1.out)
  have HB3 : Hid (Below g w v3) := HBg.out.trans ((HB1.out.trans ((B2.out.trans B3.out).mono (Nat.le_of_lt HLX.out.2.2))).mono (Nat.le_of_lt HLb.out))
  clear p0 p1 p2 p3 p4 p5 p6 hg hw1 hw2 hgb hg9 hlt hge
  obtain ⟨c0, c1, c2, c3, c4, c5, c6, c7, c8, c9, c10⟩ := HX3.out.at_
  simp only at c0 c1 c2 c3 c4 c5 c6 c7 c8 c9 c10
  clear HXg HBg H1 H2 B1 B2 B3 HG4 HG9 HXg1 HXb1 HB1 HXb HBb
  obtain ⟨q0, q1, q2, q3, q4, q5, q6⟩ := cells7 H3.out
  have z0 : v3.frozen? ⟨g9, 0, none⟩ = false := (by { have hh := H3.out; simp [World.frozen?, hh] })
  have z1 : v3.frozen? ⟨g9, 1, none⟩ = false := (by { have hh := H3.out; simp [World.frozen?, hh] })
  have d1 : ¬ g = g9 := Nat.ne_of_lt HLX.out.1
  have d2 : ¬ g9 = g := fun e => d1 e.symm
  rcases Classical.em (kd = 2) with rfl | k2
  · skip
    have HBK : Hid (effH ⟨2, key, val, had, old, line, cl⟩ ⟨x0, x1, x2, x3, x4, x5, x6⟩ gp = ⟨1, x5, x6, x2, x3, x4, gp⟩) := rfl
    go_upto_region 11 with fail
    all_goals
      obtain ⟨x, hx⟩ : ∃ x, (v3).setCell ⟨g9, 0, none⟩ (.int .i64 1) = x := ⟨_, rfl⟩
      rw [hx]
      have HX9 : Hid (x.heap[g9]? = some (.cells #[.int .i64 1, .string x5, .string x6, .int .u64 x2, .int .u64 x3, .int .u64 x4, .int .i64 gp] 112 (0, 0))) := by
          rw [← hx]
          exact heap_setCell_same _ g9 0 _ _ _ (H3.out)
      have HBx : Hid (Below g9 v3 x) := by
          rw [← hx]
          exact bset (Below.refl _ _) (Nat.le_refl _) _
      have H4x : Hid (x.heap[g4]? = some (.cells (Value.cells (.agg #[.int .i64 0, .string ⟨#[]⟩, .string ⟨#[]⟩, .int .u64 0, .int .u64 0, .int .u64 0, .int .i64 0])) 112 (0, 0))) := (HBx.out.block g4 HL9.out).trans H43.out
      clear hx q0 q1 q2 q3 q4 q5 q6 z0 z1 c0 c1 c2 c3 c4 c5 c6 c7 c8 c9 c10
      obtain ⟨q0, q1, q2, q3, q4, q5, q6⟩ := cells7 HX9.out
      go_wp2_with (first
          | ((with_reducible show wpList _ _ _ (⟨none, .store _ (.tmp 6) _, _, _, _, _⟩ :: _) _ _); refine wpList_store_whole (o := ⟨none, .store 112 (.tmp 6) (.tmp 38), _, _, _, _⟩) rfl _ _ _ rfl rfl g4 #[.int .i64 1, .string x5, .string x6, .int .u64 x2, .int .u64 x3, .int .u64 x4, .int .i64 gp] rfl rfl 112 _ H4x.out size_eff rfl (onesE _ _ _ _ _ _ _) ?_; intro v5 H5 B5)
          | fail)
      refine bodyPost_ret (results_s1 (T := 112) (cs := [_, _, _, _, _, _, _]) rfl Tryz.underlying112 rfl H5.out size_eff) rfl ?_
      exact HFIN.out _ _ HBK.out (HB3.out.trans ((HBx.out.mono (Nat.le_of_lt HLX.out.1)).trans (B5.out.mono (Nat.le_of_lt HLX.out.2.1))))
  · rcases Classical.em (kd = 3) with rfl | k3
    · skip
      have HBK : Hid (effH ⟨3, key, val, had, old, line, cl⟩ ⟨x0, x1, x2, x3, x4, x5, x6⟩ gp = ⟨2, key, x6, x2, x3, x4, gp⟩) := rfl
      go_upto_region 6 with fail
      go_region
      all_goals
        obtain ⟨x, hx⟩ : ∃ x, ((v3).setCell ⟨g9, 0, none⟩ (.int .i64 2)).setCell ⟨g9, 1, none⟩ (.string key) = x := ⟨_, rfl⟩
        rw [hx]
        have HX9 : Hid (x.heap[g9]? = some (.cells #[.int .i64 2, .string key, .string x6, .int .u64 x2, .int .u64 x3, .int .u64 x4, .int .i64 gp] 112 (0, 0))) := by
            rw [← hx]
            exact heap_setCell_same _ g9 1 _ _ _ (heap_setCell_same _ g9 0 _ _ _ (H3.out))
        have HBx : Hid (Below g9 v3 x) := by
            rw [← hx]
            exact bset (bset (Below.refl _ _) (Nat.le_refl _) _) (Nat.le_refl _) _
        have H4x : Hid (x.heap[g4]? = some (.cells (Value.cells (.agg #[.int .i64 0, .string ⟨#[]⟩, .string ⟨#[]⟩, .int .u64 0, .int .u64 0, .int .u64 0, .int .i64 0])) 112 (0, 0))) := (HBx.out.block g4 HL9.out).trans H43.out
        clear hx q0 q1 q2 q3 q4 q5 q6 z0 z1 c0 c1 c2 c3 c4 c5 c6 c7 c8 c9 c10
        obtain ⟨q0, q1, q2, q3, q4, q5, q6⟩ := cells7 HX9.out
        go_wp2_with (first
            | ((with_reducible show wpList _ _ _ (⟨none, .store _ (.tmp 6) _, _, _, _, _⟩ :: _) _ _); refine wpList_store_whole (o := ⟨none, .store 112 (.tmp 6) (.tmp 38), _, _, _, _⟩) rfl _ _ _ rfl rfl g4 #[.int .i64 2, .string key, .string x6, .int .u64 x2, .int .u64 x3, .int .u64 x4, .int .i64 gp] rfl rfl 112 _ H4x.out size_eff rfl (onesE _ _ _ _ _ _ _) ?_; intro v5 H5 B5)
            | fail)
        refine bodyPost_ret (results_s1 (T := 112) (cs := [_, _, _, _, _, _, _]) rfl Tryz.underlying112 rfl H5.out size_eff) rfl ?_
        exact HFIN.out _ _ HBK.out (HB3.out.trans ((HBx.out.mono (Nat.le_of_lt HLX.out.1)).drew.trans (B5.out.mono (Nat.le_of_lt HLX.out.2.1))))
    · rcases Classical.em (kd = 4) with rfl | k4
      · skip
        have HBK : Hid (effH ⟨4, key, val, had, old, line, cl⟩ ⟨x0, x1, x2, x3, x4, x5, x6⟩ gp = ⟨3, x5, x6, x2, x3, x4, gp⟩) := rfl
        go_upto_region 11 with fail
        all_goals
          obtain ⟨x, hx⟩ : ∃ x, (v3).setCell ⟨g9, 0, none⟩ (.int .i64 3) = x := ⟨_, rfl⟩
          rw [hx]
          have HX9 : Hid (x.heap[g9]? = some (.cells #[.int .i64 3, .string x5, .string x6, .int .u64 x2, .int .u64 x3, .int .u64 x4, .int .i64 gp] 112 (0, 0))) := by
              rw [← hx]
              exact heap_setCell_same _ g9 0 _ _ _ (H3.out)
          have HBx : Hid (Below g9 v3 x) := by
              rw [← hx]
              exact bset (Below.refl _ _) (Nat.le_refl _) _
          have H4x : Hid (x.heap[g4]? = some (.cells (Value.cells (.agg #[.int .i64 0, .string ⟨#[]⟩, .string ⟨#[]⟩, .int .u64 0, .int .u64 0, .int .u64 0, .int .i64 0])) 112 (0, 0))) := (HBx.out.block g4 HL9.out).trans H43.out
          clear hx q0 q1 q2 q3 q4 q5 q6 z0 z1 c0 c1 c2 c3 c4 c5 c6 c7 c8 c9 c10
          obtain ⟨q0, q1, q2, q3, q4, q5, q6⟩ := cells7 HX9.out
          go_wp2_with (first
              | ((with_reducible show wpList _ _ _ (⟨none, .store _ (.tmp 6) _, _, _, _, _⟩ :: _) _ _); refine wpList_store_whole (o := ⟨none, .store 112 (.tmp 6) (.tmp 38), _, _, _, _⟩) rfl _ _ _ rfl rfl g4 #[.int .i64 3, .string x5, .string x6, .int .u64 x2, .int .u64 x3, .int .u64 x4, .int .i64 gp] rfl rfl 112 _ H4x.out size_eff rfl (onesE _ _ _ _ _ _ _) ?_; intro v5 H5 B5)
              | fail)
          refine bodyPost_ret (results_s1 (T := 112) (cs := [_, _, _, _, _, _, _]) rfl Tryz.underlying112 rfl H5.out size_eff) rfl ?_
          exact HFIN.out _ _ HBK.out (HB3.out.trans ((HBx.out.mono (Nat.le_of_lt HLX.out.1)).trans (B5.out.mono (Nat.le_of_lt HLX.out.2.1))))
      · rcases Classical.em (kd = 5) with rfl | k5
        · skip
          have HBK : Hid (effH ⟨5, key, val, had, old, line, cl⟩ ⟨x0, x1, x2, x3, x4, x5, x6⟩ gp = ⟨4, x5, x6, x2, x3, x4, gp⟩) := rfl
          go_upto_region 11 with fail
          all_goals
            obtain ⟨x, hx⟩ : ∃ x, (v3).setCell ⟨g9, 0, none⟩ (.int .i64 4) = x := ⟨_, rfl⟩
            rw [hx]
            have HX9 : Hid (x.heap[g9]? = some (.cells #[.int .i64 4, .string x5, .string x6, .int .u64 x2, .int .u64 x3, .int .u64 x4, .int .i64 gp] 112 (0, 0))) := by
                rw [← hx]
                exact heap_setCell_same _ g9 0 _ _ _ (H3.out)
            have HBx : Hid (Below g9 v3 x) := by
                rw [← hx]
                exact bset (Below.refl _ _) (Nat.le_refl _) _
            have H4x : Hid (x.heap[g4]? = some (.cells (Value.cells (.agg #[.int .i64 0, .string ⟨#[]⟩, .string ⟨#[]⟩, .int .u64 0, .int .u64 0, .int .u64 0, .int .i64 0])) 112 (0, 0))) := (HBx.out.block g4 HL9.out).trans H43.out
            clear hx q0 q1 q2 q3 q4 q5 q6 z0 z1 c0 c1 c2 c3 c4 c5 c6 c7 c8 c9 c10
            obtain ⟨q0, q1, q2, q3, q4, q5, q6⟩ := cells7 HX9.out
            go_wp2_with (first
                | ((with_reducible show wpList _ _ _ (⟨none, .store _ (.tmp 6) _, _, _, _, _⟩ :: _) _ _); refine wpList_store_whole (o := ⟨none, .store 112 (.tmp 6) (.tmp 38), _, _, _, _⟩) rfl _ _ _ rfl rfl g4 #[.int .i64 4, .string x5, .string x6, .int .u64 x2, .int .u64 x3, .int .u64 x4, .int .i64 gp] rfl rfl 112 _ H4x.out size_eff rfl (onesE _ _ _ _ _ _ _) ?_; intro v5 H5 B5)
                | fail)
            refine bodyPost_ret (results_s1 (T := 112) (cs := [_, _, _, _, _, _, _]) rfl Tryz.underlying112 rfl H5.out size_eff) rfl ?_
            exact HFIN.out _ _ HBK.out (HB3.out.trans ((HBx.out.mono (Nat.le_of_lt HLX.out.1)).trans (B5.out.mono (Nat.le_of_lt HLX.out.2.1))))
        · have y2 : (kd == 2) = false := by simpa using k2
          have y3 : (kd == 3) = false := by simpa using k3
          have y4 : (kd == 4) = false := by simpa using k4
          have y5 : (kd == 5) = false := by simpa using k5
          have HBK : Hid (effH ⟨kd, key, val, had, old, line, cl⟩ ⟨x0, x1, x2, x3, x4, x5, x6⟩ gp = ⟨0, x5, x6, x2, x3, x4, gp⟩) := by show _ = _; unfold effH; rw [if_neg k2, if_neg k3, if_neg k4, if_neg k5, if_neg k3]
          go_upto_region 11 with fail
          all_goals
            obtain ⟨x, hx⟩ : ∃ x, v3 = x := ⟨_, rfl⟩
            subst hx
            have HX9 : Hid (v3.heap[g9]? = some (.cells #[.int .i64 0, .string x5, .string x6, .int .u64 x2, .int .u64 x3, .int .u64 x4, .int .i64 gp] 112 (0, 0))) := H3.out
            have HBx : Hid (Below g9 v3 v3) := Below.refl _ _
            have H4x : Hid (v3.heap[g4]? = some (.cells (Value.cells (.agg #[.int .i64 0, .string ⟨#[]⟩, .string ⟨#[]⟩, .int .u64 0, .int .u64 0, .int .u64 0, .int .i64 0])) 112 (0, 0))) := (HBx.out.block g4 HL9.out).trans H43.out
            clear q0 q1 q2 q3 q4 q5 q6 z0 z1 c0 c1 c2 c3 c4 c5 c6 c7 c8 c9 c10
            obtain ⟨q0, q1, q2, q3, q4, q5, q6⟩ := cells7 HX9.out
            go_wp2_with (first
                | ((with_reducible show wpList _ _ _ (⟨none, .store _ (.tmp 6) _, _, _, _, _⟩ :: _) _ _); refine wpList_store_whole (o := ⟨none, .store 112 (.tmp 6) (.tmp 38), _, _, _, _⟩) rfl _ _ _ rfl rfl g4 #[.int .i64 0, .string x5, .string x6, .int .u64 x2, .int .u64 x3, .int .u64 x4, .int .i64 gp] rfl rfl 112 _ H4x.out size_eff rfl (onesE _ _ _ _ _ _ _) ?_; intro v5 H5 B5)
                | fail)
            refine bodyPost_ret (results_s1 (T := 112) (cs := [_, _, _, _, _, _, _]) rfl Tryz.underlying112 rfl H5.out size_eff) rfl ?_
            exact HFIN.out _ _ HBK.out (HB3.out.trans ((HBx.out.mono (Nat.le_of_lt HLX.out.1)).trans (B5.out.mono (Nat.le_of_lt HLX.out.2.1))))

end Go.Proofs.YtlghphccmgmomaaGreat

/-
  Proved here: whether the blocks of a list of changes may be, package arena.
  Conditions: texts of at most 2000 bytes.
-/
namespace Go.Proofs.YtlghphccmgmomaaGreat
open Go Go.RowKit
set_option maxRecDepth 100000

/-! ### Blocks that may be, of the classes that were taken for them -/
def frmC (ep : Nat) (c : Ch) : Bool := !needH c || (mayB (blkH c ep 1 1) && (blkH c ep 1 1).cl == c.cl)
def Short (c : Ch) : Prop := c.key.size ≤ 2000 ∧ c.val.size ≤ 2000
theorem blk_short {c : Ch} (h : Short c) (ep i v : Nat) : (blkH c ep i v).key.size ≤ 2000 ∧ (blkH c ep i v).val.size ≤ 2000 := by
  unfold blkH
  split
  · exact h
  · split
    · exact ⟨by show (0 : Nat) ≤ _; omega, h.2⟩
    · exact ⟨by show (0 : Nat) ≤ _; omega, by show (0 : Nat) ≤ _; omega⟩
theorem all_next {α : Type} {p : α → Bool} {G : List α} {i : Nat} {x : α} (h : G[i]? = some x) : (G.take (i + 1)).all p = ((G.take i).all p && p x) := by
  rw [List.take_add_one, h]
  simp
theorem all_no {α : Type} {p : α → Bool} {G : List α} {i : Nat} {x : α} (h : G[i]? = some x) (hp : p x = false) : G.all p = false := by
  rw [List.all_eq_false]
  exact ⟨x, List.mem_of_getElem? h, by rw [hp]; simp⟩
set_option maxHeartbeats 3200000 in
theorem formed_any (w : World) (A : Option Addr) (G : List Ch) (n cap ep : Nat) (hn : G.length = n) (hr : RH.Row w A G) (hc : n ≤ cap) (hm : cap ≤ maxLen) (hs : ∀ c ∈ G, Short c) :
    Calls Tryz.prog 24 #[.slice A n cap, .int .u64 (ep : Nat)] w fun e w' => e = .returned (.bool (G.all (frmC ep))) ∧ Below w.heap.size w w' := by
  unfold maxLen at hm
  obtain ⟨r, hrb⟩ : ∃ r, G.all (frmC ep) = r := ⟨_, rfl⟩
  rw [hrb]
  obtain ⟨B, hB⟩ : ∃ B, w.heap.size = B := ⟨_, rfl⟩
  rw [hB]
  have HR := Lib.hid hr
  have HN := Lib.hid hn
  have HRB := Lib.hid hrb
  have HBS := Lib.hid hB
  have HS := Lib.hid hs
  have HZ := Lib.hid zero_ch
  have HZB := Lib.hid zero_block
  have HC := Lib.hid hc
  clear hr hn hB hrb hs
  go_enter Tryz.func24, Tryz.ntmps24
  go_wp2
  go_loopg [10] n (fun gk s10 wx => ∃ i : Nat, i + gk = n ∧ s10 = .int .i64 i ∧ Hid (Below B w wx) ∧ Hid ((G.take i).all (frmC ep) = true))
  case atStart => exact ⟨0, by omega, rfl, Below.refl _ _, rfl⟩
  case round =>
    obtain ⟨i, hig, rfl, HW, HG⟩ := hrel
    cases gk with
    | zero =>
      obtain rfl : i = n := by omega
      have hii : ¬ (i : Int) < (i : Int) := by omega
      obtain rfl : r = true := by
        rw [← HRB.out]
        have := HG.out
        rw [← HN.out, List.take_length] at this
        exact this
      go_wp2
      go_ret
      exact ⟨rfl, HW.out⟩
    | succ gk =>
      have hii : (i : Int) < (n : Int) := by omega
      have hi0 : (0 : Int) ≤ (i : Int) := by omega
      have hgi := List.getElem?_eq_getElem (show i < G.length by have := HN.out; omega)
      generalize G[i]'(by have := HN.out; omega) = x at *
      obtain ⟨b', off', rfl, -, c0, c1, c2, c3, c4, c5, c6, c7, c8, c9, c10⟩ := chAt (HR.out.below (HBS.out.symm ▸ HW.out)) hgi
      have HSX : Hid (Short x) := HS.out x (List.mem_of_getElem? hgi)
      have HNX := Lib.hid (fun w1 => need_any16 x w1)
      have HBX := Lib.hid (fun w1 => blockof_any x ep 1 1 w1)
      have HMX := Lib.hid (fun w1 => may_any (blkH x ep 1 1) (blk_short HSX.out ep 1 1).1 (blk_short HSX.out ep 1 1).2 w1)
      have hbB : B ≤ wr.heap.size := by have := HW.out.size; have := HBS.out; omega
      obtain ⟨g, hg⟩ : ∃ g, wr.heap.size = g := ⟨_, rfl⟩
      have HGX := Lib.hid hg
      have HGB : Hid (B ≤ g) := hg ▸ hbB
      have HN1 : Hid (frmC ep x = false → r = false) := fun h => by rw [← HRB.out]; exact all_no hgi h
      have HN2 : Hid (frmC ep x = true → (G.take (i + 1)).all (frmC ep) = true) := fun h => by rw [all_next hgi, HG.out, h]; rfl
      unfold frmC at HN1 HN2
      rw [BV.agg] at HMX
      clear hgi hbB hg HSX
      generalize blkH x ep 1 1 = y at *
      obtain ⟨y0, y1, y2, y3, y4, y5, y6⟩ := y
      simp only at HBX HMX HN1 HN2
      obtain ⟨z, hz⟩ : ∃ z, needH x = z := ⟨_, rfl⟩
      obtain ⟨m, hm2⟩ : ∃ m, mayB ⟨y0, y1, y2, y3, y4, y5, y6⟩ = m := ⟨_, rfl⟩
      rw [hz] at HNX HN1
      rw [hm2] at HMX HN1
      obtain ⟨u, hu⟩ : ∃ u, (y0 == x.cl) = u := ⟨_, rfl⟩
      rw [hu] at HN1
      have HN3 : Hid ((!z || (m && u)) = true → (G.take (i + 1)).all (frmC ep) = true) := fun h => by rw [← hz, ← hm2, ← hu] at h; exact HN2.out h
      clear hz hm2 HN2
      generalize x.kd = x0 at *
      generalize x.key = x1 at *
      generalize x.val = x2 at *
      generalize x.had = x3 at *
      generalize x.old.str = x4 at *
      generalize (x.old.id : Int) = x5 at *
      generalize (x.old.ver : Int) = x6 at *
      generalize x.old.line = x7 at *
      generalize x.old.cl = x8 at *
      generalize x.line = x9 at *
      generalize x.cl = x10 at *
      go_wp2_with (first
        | ((with_reducible show wpList _ _ _ (⟨some 6, .alloc _, _, _, _, _⟩ :: _) _ _); refine wpList_alloc_var (o := ⟨some 6, _, _, _, _, _⟩) rfl 31 rfl g HGX.out _ HZ.out ?_; intro v1 H1 B1)
        | ((with_reducible show wpList _ _ _ (⟨none, .store _ (.tmp 6) _, _, _, _, _⟩ :: _) _ _); refine wpList_store_whole (o := ⟨none, .store 31 (.tmp 6) (.tmp 13), _, _, _, _⟩) rfl _ _ _ rfl rfl g #[.int .i64 x0, .string x1, .string x2, .bool x3, .string x4, .int .u64 x5, .int .u64 x6, .int .i64 x7, .int .i64 x8, .int .i64 x9, .int .i64 x10] rfl rfl 31 _ H1.out size_ch rfl (onesCh _ _ _ _ _ _ _ _ _ _ _) ?_; intro v2 H2 B2; obtain ⟨p0, p1, p2, p3, p4, p5, p6, p7, p8, p9, p10⟩ := cells11 H2.out; have HW2 : Hid (Below B w v2) := HW.out.trans ((B1.out.trans B2.out).mono HGB.out); have HL2 : Hid (g < v2.heap.size) := lt_of_heap H2.out; clear c0 c1 c2 c3 c4 c5 c6 c7 c8 c9 c10)
        | fail)
      refine (HNX.out _).mono ?_
      rintro e v3 ⟨rfl, b3⟩
      clear p0 p1 p2 p3 p4 p5 p6 p7 p8 p9 p10
      have HL23 : Hid (B ≤ v2.heap.size) := Nat.le_of_lt (Nat.lt_of_le_of_lt HGB.out HL2.out)
      have HW3 : Hid (Below B w v3) := HW2.out.trans (b3.mono HL23.out)
      have H3 := Lib.hid ((b3.block g HL2.out).trans H2.out)
      have HL3 : Hid (g < v3.heap.size) := lt_of_heap H3.out
      obtain ⟨p0, p1, p2, p3, p4, p5, p6, p7, p8, p9, p10⟩ := cells11 H3.out
      clear b3
      cases z with
      | false =>
        have HG2 := Lib.hid (HN3.out rfl)
        go_wp2
        go_roundg gk
        case measure => omega
        case rel => exact ⟨i + 1, by omega, by go_num, HW3.out, HG2⟩
      | true =>
        go_wp2_with fail
        refine (HBX.out _).mono ?_
        rintro e v4 ⟨rfl, b4⟩
        clear p0 p1 p2 p3 p4 p5 p6 p7 p8 p9 p10
        have HW4 : Hid (Below B w v4) := HW3.out.trans (b4.mono (Nat.le_of_lt (Nat.lt_of_le_of_lt HGB.out HL3.out)))
        have H4 := Lib.hid ((b4.block g HL3.out).trans H3.out)
        have HL4 : Hid (g < v4.heap.size) := lt_of_heap H4.out
        obtain ⟨g7, hg7⟩ : ∃ g7, v4.heap.size = g7 := ⟨_, rfl⟩
        have HG7 := Lib.hid hg7
        clear b4 hg7
        go_wp2_with (first
          | ((with_reducible show wpList _ _ _ (⟨some 7, .alloc _, _, _, _, _⟩ :: _) _ _); refine wpList_alloc_var (o := ⟨some 7, _, _, _, _, _⟩) rfl 95 rfl g7 HG7.out _ HZB.out ?_; intro v5 H5 B5)
          | ((with_reducible show wpList _ _ _ (⟨none, .store _ (.tmp 7) _, _, _, _, _⟩ :: _) _ _); refine wpList_store_whole (o := ⟨none, .store 95 (.tmp 7) (.tmp 19), _, _, _, _⟩) rfl _ _ _ rfl rfl g7 #[.int .i64 y0, .int .i64 y1, .int .u64 y2, .int .u64 y3, .int .u64 y4, .string y5, .string y6] rfl rfl 95 _ H5.out size_block rfl (onesB _ _ _ _ _ _ _) ?_; intro v6 H6 B6; obtain ⟨q0, q1, q2, q3, q4, q5, q6⟩ := cells7 H6.out; have HL7 : Hid (g < g7) := HG7.out ▸ HL4.out; have HB6 : Hid (Below g7 v4 v6) := B5.out.trans B6.out; have HW6 : Hid (Below B w v6) := HW4.out.trans (HB6.out.mono (Nat.le_of_lt (Nat.lt_of_le_of_lt HGB.out HL7.out))); have H46 := Lib.hid ((HB6.out.block g HL7.out).trans H4.out); have HL6 : Hid (g7 < v6.heap.size) := lt_of_heap H6.out)
          | fail)
        refine (HMX.out _).mono ?_
        rintro e v7 ⟨rfl, b7⟩
        clear q0 q1 q2 q3 q4 q5 q6
        have HW7 : Hid (Below B w v7) := HW6.out.trans (b7.mono (Nat.le_of_lt (Nat.lt_trans (Nat.lt_of_le_of_lt HGB.out HL7.out) HL6.out)))
        obtain ⟨q0, q1, q2, q3, q4, q5, q6⟩ := cells7 ((b7.block g7 HL6.out).trans H6.out)
        obtain ⟨p0, p1, p2, p3, p4, p5, p6, p7, p8, p9, p10⟩ := cells11 ((b7.block g (Nat.lt_trans HL7.out HL6.out)).trans H46.out)
        clear b7
        have hun : (y0 != x10) = !u := by rw [← hu]; rfl
        cases m with
        | false =>
          obtain rfl := HN1.out rfl
          go_wp2
          go_ret
          exact ⟨rfl, HW7.out⟩
        | true =>
          cases u with
          | false =>
            obtain rfl := HN1.out rfl
            go_wp2
            go_ret
            exact ⟨rfl, HW7.out⟩
          | true =>
            have HG2 := Lib.hid (HN3.out rfl)
            go_wp2
            go_roundg gk
            case measure => omega
            case rel => exact ⟨i + 1, by omega, by go_num, HW7.out, HG2⟩

end Go.Proofs.YtlghphccmgmomaaGreat
