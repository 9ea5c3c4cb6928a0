/-
  Proved here, joined: PblA16, AsgA16, RetA16, SthA16
  Conditions: as each part says.
-/
import Derived.Test.YtlghphccmgmomaaGreatJN42
import Derived.Deep.RegionHeld3

/-
  Proved here: Publish, given what perform does, package arena.
  Conditions: at most 100,000 links, texts of at most 2000 bytes, numbers far from the end of what a machine has.
-/
namespace Go.Proofs.YtlghphccmgmomaaGreat
open Go Go.RowKit
set_option maxRecDepth 100000

open Classical
/-- What Publish refuses with, 0: nothing. -/
def pubE (s : Az) (t : Int) (e : Nat) (G : List Ch) : Int :=
  if (thrB s.c t && lstB G) = false then 1
  else if ((e : Int) == (s.c.now : Nat)) = false then 8
  else if G.all (curC s.T s.Q) = false then 8
  else if ownUp s.L (usedL s) G G.length = false then 1
  else if G.all (frmC e) = false then 3
  else if (numL e s.id s.ver G G.length).any pastB = true then 10
  else 0
section
variable {b : Nat} {w w' : World} {col : Nat → Nat} {z : Pz} {s : Az}
set_option maxHeartbeats 3200000 in
theorem publish_of (h : Ar b w col z s) (hT : s.T.length ≤ 100000) (hQ : s.Q.length ≤ 100000) (t : Int) (e : Nat) (A : Option Addr) (G : List Ch) (n cap : Nat) (hn : G.length = n) (hr : RH.Row w A G) (hc : n ≤ cap) (hm : cap ≤ maxLen) (hs : ∀ c ∈ G, Short c)
    (hid : s.id + 10 < 18446744073709551616) (hver : s.ver + 10 < 18446744073709551616) (R : Ending → World → Prop)
    (hbad : pubE s t e G ≠ 0 → ∀ W, Below w.heap.size w W → R (.returned (.tuple #[.slice none 0 0, .int .i64 (pubE s t e G)])) W)
    (hgo : pubE s t e G = 0 → n ≤ 3 → ∀ W g, Below w.heap.size w W → W.ownsRow w.heap.size RBk.tE RBk.k (.slice (some ⟨g, 0, none⟩) n n) n (RBk.enc (numL e s.id s.ver G n)) →
      Calls Tryz.prog 28 #[.pointer (some ⟨z.ap, 0, none⟩), .int .i64 t, .slice A n cap, .slice (some ⟨g, 0, none⟩) n n] W fun x W' => ∃ v, x = .returned v ∧ R (.returned (.tuple #[v, .int .i64 0])) W') :
    Calls Tryz.prog 4 #[.pointer (some ⟨z.ap, 0, none⟩), .int .i64 t, .int .u64 (e : Nat), .slice A n cap] w R := by
  obtain ⟨B, hB⟩ : ∃ B, w.heap.size = B := ⟨_, rfl⟩
  have HBS := Lib.hid hB
  have HW : Hid (∀ W, Below B w W → Ar b W col z s ∧ RH.Row W A G ∧ B ≤ W.heap.size) := fun W hW => ⟨h.below (hB.symm ▸ hW), hr.below (hB.symm ▸ hW), hB ▸ hW.size⟩
  have HTH : Hid (∀ W, Below B w W → Calls Tryz.prog 19 #[.pointer (some ⟨z.ap, 0, none⟩), .int .i64 t] W fun e w' => e = .returned (.bool (thrB s.c t)) ∧ Below W.heap.size W w') := fun W hW => isthread_any (HW.out W hW).1 t
  have HLI : Hid (∀ W, Below B w W → Calls Tryz.prog 20 #[.slice A n cap] W fun e w' => e = .returned (.bool (lstB G)) ∧ Below W.heap.size W w') := fun W hW => islist_any W A G n cap hn (HW.out W hW).2.1 hc hm
  have HNW : Hid (∀ W, Below B w W → Calls Tryz.prog 21 #[.pointer (some ⟨z.cp, 0, none⟩)] W fun e w' => e = .returned (.int .u64 (s.c.now : Nat)) ∧ W = w') := fun W hW => cknow_any (HW.out W hW).1.ck.two
  have HCP : Hid (∀ W, Below B w W → W.cell? ⟨z.ap, 6, none⟩ = some (.pointer (some ⟨z.cp, 0, none⟩))) := fun W hW => (HW.out W hW).1.at_.2.2.2.1
  have HCU : Hid (n ≤ 3 → ∀ W, Below B w W → Calls Tryz.prog 22 #[.pointer (some ⟨z.ap, 0, none⟩), .slice A n cap] W fun e w' => e = .returned (.bool (G.all (curC s.T s.Q))) ∧ Below W.heap.size W w') := fun h3 W hW => current_any (HW.out W hW).1 A G n cap hn (HW.out W hW).2.1 h3 hs
  have HOB : Hid (n ≤ 3 → ∀ W, Below B w W → Calls Tryz.prog 23 #[.pointer (some ⟨z.ap, 0, none⟩), .slice A n cap] W fun e w' => e = .returned (.bool (ownUp s.L (usedL s) G n)) ∧ Below W.heap.size W w') := fun h3 W hW => ownblocks_any (HW.out W hW).1 hT hQ A G n cap hn (HW.out W hW).2.1 h3
  have HFO : Hid (∀ W, Below B w W → Calls Tryz.prog 24 #[.slice A n cap, .int .u64 (e : Nat)] W fun x w' => x = .returned (.bool (G.all (frmC e))) ∧ Below W.heap.size W w') := fun W hW => formed_any W A G n cap e hn (HW.out W hW).2.1 hc hm hs
  have HNB : Hid (n ≤ 3 → ∀ W, Below B w W → Calls Tryz.prog 25 #[.pointer (some ⟨z.ap, 0, none⟩), .slice A n cap, .int .u64 (e : Nat)] W (BkTo W (numL e s.id s.ver G n))) := fun h3 W hW => numbered_any (HW.out W hW).1 A G n cap e hn (HW.out W hW).2.1 h3 hid hver
  have HN3 : Hid (lstB G = true → n ≤ 3) := fun h => by
    unfold lstB at h
    simp only [Bool.and_eq_true, decide_eq_true_eq] at h
    omega
  have HLN : Hid ((numL e s.id s.ver G n).length = n) := numL_len _ _ _ _ _
  have HSZ : Hid (∀ W, Below B w W → B ≤ W.heap.size) := fun W hW => (HW.out W hW).2.2
  have HGO : Hid (pubE s t e G = 0 → n ≤ 3 → ∀ W g, Below B w W → W.ownsRow B RBk.tE RBk.k (.slice (some ⟨g, 0, none⟩) n n) n (RBk.enc (numL e s.id s.ver G n)) →
      Calls Tryz.prog 28 #[.pointer (some ⟨z.ap, 0, none⟩), .int .i64 t, .slice A n cap, .slice (some ⟨g, 0, none⟩) n n] W fun x W' => ∃ v, x = .returned v ∧ R (.returned (.tuple #[v, .int .i64 0])) W') := hB ▸ hgo
  have HBAD : Hid (∀ W v, Below B w W → v ≠ 0 → pubE s t e G = v → R (.returned (.tuple #[.slice none 0 0, .int .i64 v])) W) := fun W v h1 h2 h3 => by
    subst h3
    exact hbad h2 W (hB.symm ▸ h1)
  unfold pubE at HGO HBAD
  rw [hn] at HGO HBAD
  generalize s.c.now = now at *
  generalize z.ap = ap at *
  generalize z.cp = cp at *
  generalize G.all (curC s.T s.Q) = q2 at *
  generalize ownUp s.L (usedL s) G n = q3 at *
  generalize G.all (frmC e) = q4 at *
  generalize hN : numL e s.id s.ver G n = N at *
  obtain ⟨q5, h5⟩ : ∃ q, N.any pastB = q := ⟨_, rfl⟩
  rw [h5] at HGO HBAD
  have HQ5 := Lib.hid h5
  obtain ⟨q0, h0⟩ : ∃ q, thrB s.c t = q := ⟨_, rfl⟩
  obtain ⟨q1, h1⟩ : ∃ q, lstB G = q := ⟨_, rfl⟩
  rw [h0] at HGO HBAD HTH
  rw [h1] at HGO HBAD HLI HN3
  clear h hT hQ hn hr hc hm hs hid hver hbad hgo h5 h0 h1 hN hB
  go_enter Tryz.func4, Tryz.ntmps4
  go_wp2_with fail
  refine (HTH.out w (Below.refl _ _)).mono ?_
  rintro x w1 ⟨rfl, b1⟩
  have HB1 : Hid (Below B w w1) := HBS.out ▸ b1
  clear b1
  cases q0 with
  | false =>
    go_wp2
    exact HBAD.out _ _ HB1.out (by decide) (by simp)
  | true =>
    go_wp2_with fail
    refine (HLI.out w1 HB1.out).mono ?_
    rintro x w2 ⟨rfl, b2⟩
    have HB2 : Hid (Below B w w2) := HB1.out.trans (b2.mono (HSZ.out _ HB1.out))
    clear b2
    cases q1 with
    | false =>
      go_wp2
      exact HBAD.out _ _ HB2.out (by decide) (by simp)
    | true =>
      have H3 := Lib.hid (HN3.out rfl)
      have k6 := HCP.out w2 HB2.out
      go_wp2_with fail
      refine (HNW.out w2 HB2.out).mono ?_
      rintro x w3 ⟨rfl, rfl⟩
      cases hx : ((e : Int) == (now : Nat)) with
      | false =>
        have hne : ((e : Int) != (now : Nat)) = true := by rw [bne, hx]; rfl
        rw [hx] at HBAD
        go_wp2
        exact HBAD.out _ _ HB2.out (by decide) (by simp)
      | true =>
        have hne : ((e : Int) != (now : Nat)) = false := by rw [bne, hx]; rfl
        rw [hx] at HBAD HGO
        go_wp2_with fail
        refine (HCU.out H3.out w2 HB2.out).mono ?_
        rintro x w4 ⟨rfl, b4⟩
        have HB4 : Hid (Below B w w4) := HB2.out.trans (b4.mono (HSZ.out _ HB2.out))
        clear b4 k6
        cases q2 with
        | false =>
          go_wp2
          exact HBAD.out _ _ HB4.out (by decide) (by simp)
        | true =>
          go_wp2_with fail
          refine (HOB.out H3.out w4 HB4.out).mono ?_
          rintro x w5 ⟨rfl, b5⟩
          have HB5 : Hid (Below B w w5) := HB4.out.trans (b5.mono (HSZ.out _ HB4.out))
          clear b5
          cases q3 with
          | false =>
            go_wp2
            exact HBAD.out _ _ HB5.out (by decide) (by simp)
          | true =>
            go_wp2_with fail
            refine (HFO.out w5 HB5.out).mono ?_
            rintro x w6 ⟨rfl, b6⟩
            have HB6 : Hid (Below B w w6) := HB5.out.trans (b6.mono (HSZ.out _ HB5.out))
            clear b6
            cases q4 with
            | false =>
              go_wp2
              exact HBAD.out _ _ HB6.out (by decide) (by simp)
            | true =>
              go_wp2_with fail
              refine (HNB.out H3.out w6 HB6.out).mono ?_
              rintro x w7 ⟨g, rfl, o7, b7⟩
              have HB7 : Hid (Below B w w7) := HB6.out.trans (b7.mono (HSZ.out _ HB6.out))
              rw [HLN.out] at o7
              have HO7 : Hid (w7.ownsRow B RBk.tE RBk.k (.slice (some ⟨g, 0, none⟩) n n) n (RBk.enc N)) := own_mono o7 (HSZ.out _ HB6.out)
              obtain ⟨-, A9, c9, e9, -, -, r9, -, -⟩ := Rec.row_of_own (R := RBk) HO7.out (by rw [HLN.out]; have := H3.out; omega)
              cases e9
              have HPE := Lib.hid (pastend_any n n HLN.out r9)
              rw [HQ5.out] at HPE
              rw [HLN.out]
              clear o7 b7 r9
              go_wp2_with fail
              refine HPE.out.mono ?_
              rintro x w8 ⟨rfl, b8⟩
              have HB8 : Hid (Below B w w8) := HB7.out.trans (b8.mono (HSZ.out _ HB7.out))
              have HO8 := Lib.hid (own_keep HO7.out b8)
              clear b8 HPE
              cases q5 with
              | true =>
                go_wp2
                exact HBAD.out _ _ HB8.out (by decide) (by simp)
              | false =>
                have HPF := Lib.hid (HGO.out (by simp) H3.out w8 g HB8.out HO8.out)
                go_wp2_with fail
                refine HPF.out.mono ?_
                rintro x w9 ⟨v, rfl, hR⟩
                have HRR := Lib.hid hR
                clear hR
                go_wp2
                exact HRR.out
end

end Go.Proofs.YtlghphccmgmomaaGreat

/-
  Proved here: assign, package arena.
  Conditions: none.
-/
namespace Go.Proofs.YtlghphccmgmomaaGreat
open Go Go.RowKit
set_option maxRecDepth 100000

open Classical
section
variable {b : Nat} {w w' : World} {col : Nat → Nat} {z : Pz} {s : Az}
set_option maxHeartbeats 3200000 in
theorem assign_any (h : Ar b w col z s) (x : BV) : Calls Tryz.prog 105 #[.pointer (some ⟨z.ap, 0, none⟩), .agg #[.int .i64 x.cl, .int .i64 x.kd, .int .u64 (x.id : Nat), .int .u64 (x.ver : Nat), .int .u64 (x.ep : Nat), .string x.key, .string x.val]] w fun e w' => e = .returned (.tuple #[]) ∧ ArTo b w col z { s with id := max s.id x.id, ver := max s.ver x.ver } w' := by
  obtain ⟨g, hg⟩ : ∃ g, w.heap.size = g := ⟨_, rfl⟩
  obtain ⟨w1, hw1⟩ : ∃ w1, w.alloc (.cells #[.int .i64 x.cl, .int .i64 x.kd, .int .u64 (x.id : Nat), .int .u64 (x.ver : Nat), .int .u64 (x.ep : Nat), .string x.key, .string x.val] 95) = w1 := ⟨_, rfl⟩
  have HXg : Hid (Box w1 g x) := by rw [← hw1, ← hg]; exact heap_alloc_new w _
  have HBg : Hid (Below g w w1) := by rw [← hw1, ← hg]; exact (Below.refl _ _).alloc (Nat.le_refl _) _
  have h1 := h.below (hg.symm ▸ HBg.out)
  obtain ⟨on, hm⟩ := h1.me
  have hap : z.ap < g := by
    obtain ⟨on, hm⟩ := h.me
    exact hg ▸ lt_of_heap hm
  have HNM := Lib.hid (numbers_any h1)
  have HME := Lib.hid hm
  obtain ⟨R, hR⟩ : ∃ R, (fun e w' => e = Ending.returned (.tuple #[]) ∧ ArTo b w col z { s with id := max s.id x.id, ver := max s.ver x.ver } w') = R := ⟨_, rfl⟩
  have HFIN : Hid (∀ W, W.heap[z.ap]? = some (.cells (arCells z on (max s.id x.id) (max s.ver x.ver)).toArray 88 (0, 0)) → Stay (fun k => k = z.ap) w1 W → R (.returned (.tuple #[])) W) := fun W k1 k2 => by
    rw [← hR]
    exact ⟨rfl, h.setNum k1 ((Stay.of_below (hg.symm ▸ HBg.out)).trans k2)⟩
  rw [hR]
  have hmi : max (s.id : Int) (x.id : Int) = ((max s.id x.id : Nat) : Int) := by omega
  have hmv : max (s.ver : Int) (x.ver : Int) = ((max s.ver x.ver : Nat) : Int) := by omega
  have a11 : w1.cell? ⟨z.ap, 11, none⟩ = some (.int .u64 (s.id : Nat)) := h1.at_.2.2.2.2.2.2.2.2.1
  generalize max s.id x.id = mi at *
  generalize max s.ver x.ver = mv at *
  have HST : Hid (∀ (W : World) (j : Nat) (y : Int) (cs : List Value), W.heap[z.ap]? = some (.cells cs.toArray 88 (0, 0)) → j < cs.length → Calls Tryz.prog 151 #[.pointer (some ⟨z.ap, j, none⟩), .int .u64 y] W fun e w' => e = .returned (.tuple #[]) ∧ W.setCell ⟨z.ap, j, none⟩ (.int .u64 y) = w') := fun W j y cs k hj =>
    ustore z.ap j (cs[j]) y W (by simp [World.cell?, k, hj]) (by simp [World.frozen?, k])
  have HN1 : Hid (∀ (W W' : World) (i1 v1 i2 : Nat), W.heap[z.ap]? = some (.cells (arCells z on i1 v1).toArray 88 (0, 0)) → W.setCell ⟨z.ap, 11, none⟩ (.int .u64 (i2 : Nat)) = W' → W'.heap[z.ap]? = some (.cells (arCells z on i2 v1).toArray 88 (0, 0)) ∧ Stay (fun k => k = z.ap) W W') := fun W W' i1 v1 i2 k e => by
    subst e
    exact ⟨by have := heap_setCell_same W z.ap 11 _ _ (.int .u64 (i2 : Nat)) k; simpa [arCells, onceCells] using this, Stay.setCell _ _ _ _ rfl⟩
  have HN2 : Hid (∀ (W W' : World) (i1 v1 v2 : Nat), W.heap[z.ap]? = some (.cells (arCells z on i1 v1).toArray 88 (0, 0)) → W.setCell ⟨z.ap, 12, none⟩ (.int .u64 (v2 : Nat)) = W' → W'.heap[z.ap]? = some (.cells (arCells z on i1 v2).toArray 88 (0, 0)) ∧ Stay (fun k => k = z.ap) W W') := fun W W' i1 v1 v2 k e => by
    subst e
    exact ⟨by have := heap_setCell_same W z.ap 12 _ _ (.int .u64 (v2 : Nat)) k; simpa [arCells, onceCells] using this, Stay.setCell _ _ _ _ rfl⟩
  clear h h1 hm hR a11
  obtain ⟨x0, x1, x2, x3, x4, x5, x6⟩ := x
  simp only at *
  obtain ⟨c0, c1, c2, c3, c4, c5, c6⟩ := HXg.out.cells
  have dag : ¬ z.ap = g := Nat.ne_of_lt hap
  have dga : ¬ g = z.ap := fun e => dag e.symm
  generalize z.ap = ap at *
  generalize s.id = i0 at *
  generalize s.ver = v0 at *
  go_enter Tryz.func105, Tryz.ntmps105
  go_wp2_with fail
  refine HNM.out.mono ?_
  rintro e w2 ⟨rfl, k, hk⟩
  have HM2 : Hid (w2.heap[ap]? = some (.cells (arCells z on i0 v0).toArray 88 (0, 0))) := by rw [hk]; exact HME.out
  have HG2 : Hid (Box w2 g ⟨x0, x1, x2, x3, x4, x5, x6⟩) := by rw [hk]; exact HXg.out
  have HS2 : Hid (Stay (fun k => k = ap) w1 w2) := by rw [hk]; exact Stay.of_below (below_drewN (Below.refl _ _) _)
  clear hk c0 c1 c2 c3 c4 c5 c6 HNM HME HXg
  obtain ⟨c0, c1, c2, c3, c4, c5, c6⟩ := HG2.out.cells
  go_upto_region 2 with fail
  go_region_held3 (fun W => W.cell? ⟨g, 2, none⟩ = some (.int .u64 (x2 : Nat))) (go_keep)
    (first
      | (go_at_call 151; refine (HST.out w2.drew 11 _ _ HM2.out (by show 11 < 14; omega)).mono ?_; rintro e w3 ⟨rfl, hw3⟩; obtain ⟨k1, k2⟩ := HN1.out w2.drew w3 _ _ _ HM2.out hw3; have HM3 := Lib.hid k1; have HS3 : Hid (Stay (fun k => k = ap) w1 w3) := (HS2.out.drewN 1).trans k2; have HG3 : Hid (Box w3 g ⟨x0, x1, x2, x3, x4, x5, x6⟩) := (k2.block g dga (lt_of_heap HG2.out)).trans HG2.out; obtain ⟨t0, t1, t2, t3, t4, t5, t6⟩ := HG3.out.cells; clear k1 k2 hw3)
      | fail)
  clear c0 c1 c2 c3 c4 c5 c6
  go_upto_region 3 with fail
  go_region_held3 (fun W => W.cell? ⟨g, 3, none⟩ = some (.int .u64 (x3 : Nat))) (go_keep)
    (first
      | (go_at_call 151; refine (HST.out w3.drew 12 _ _ HM3.out (by show 12 < 14; omega)).mono ?_; rintro e w4 ⟨rfl, hw4⟩; obtain ⟨k1, k2⟩ := HN2.out w3.drew w4 _ _ _ HM3.out hw4; have HM4 := Lib.hid k1; have HS4 : Hid (Stay (fun k => k = ap) w1 w4) := (HS3.out.drewN 1).trans k2; have HG4 : Hid (Box w4 g ⟨x0, x1, x2, x3, x4, x5, x6⟩) := (k2.block g dga (lt_of_heap HG3.out)).trans HG3.out; obtain ⟨r0, r1, r2, r3, r4, r5, r6⟩ := HG4.out.cells; clear k1 k2 hw4)
      | fail)
  go_wp2
  refine bodyPost_end (results_none rfl _ _ _) rfl ?_
  exact HFIN.out _ HM4.out HS4.out
end

end Go.Proofs.YtlghphccmgmomaaGreat

/-
  Proved here: retire, package arena.
  Conditions: none.
-/
namespace Go.Proofs.YtlghphccmgmomaaGreat
open Go Go.RowKit
set_option maxRecDepth 100000

open Classical
section
variable {b : Nat} {w w' : World} {col : Nat → Nat} {z : Pz} {s : Az}
theorem base_eq {z z' : Pz} (h : z'.base = z.base) : z'.ap = z.ap ∧ z'.dp = z.dp ∧ z'.dq = z.dq ∧ z'.pp = z.pp ∧ z'.pq = z.pq ∧ z'.rp = z.rp ∧ z'.rq = z.rq ∧ z'.cp = z.cp ∧ z'.co = z.co ∧ z'.bp = z.bp ∧ z'.tp = z.tp ∧ z'.op = z.op ∧ z'.lp = z.lp := by
  unfold Pz.base at h
  simpa using h
/-- The struct's pointers stay. -/
theorem ArTo.at_ {s' : Az} (h : ArTo b w col z s' w') : w'.cell? ⟨z.ap, 0, none⟩ = some (.pointer (some ⟨z.dp, 0, none⟩)) ∧ w'.cell? ⟨z.ap, 4, none⟩ = some (.pointer (some ⟨z.pp, 0, none⟩)) ∧ w'.cell? ⟨z.ap, 5, none⟩ = some (.pointer (some ⟨z.rp, 0, none⟩)) ∧ w'.cell? ⟨z.ap, 6, none⟩ = some (.pointer (some ⟨z.cp, 0, none⟩)) ∧ w'.cell? ⟨z.ap, 7, none⟩ = some (.pointer (some ⟨z.bp, 0, none⟩)) ∧ w'.cell? ⟨z.ap, 8, none⟩ = some (.pointer (some ⟨z.tp, 0, none⟩)) ∧ w'.cell? ⟨z.ap, 9, none⟩ = some (.pointer (some ⟨z.op, 0, none⟩)) ∧ w'.cell? ⟨z.ap, 10, none⟩ = some (.pointer (some ⟨z.lp, 0, none⟩)) := by
  obtain ⟨col', z', har, hz, -, -⟩ := h.ar
  obtain ⟨e1, e2, -, e4, -, e6, -, e8, -, e10, e11, e12, e13⟩ := base_eq hz
  obtain ⟨a0, a4, a5, a6, a7, a8, a9, a10, -⟩ := har.at_
  rw [e1] at a0 a4 a5 a6 a7 a8 a9 a10
  rw [e2] at a0
  rw [e4] at a4
  rw [e6] at a5
  rw [e8] at a6
  rw [e10] at a7
  rw [e11] at a8
  rw [e12] at a9
  rw [e13] at a10
  exact ⟨a0, a4, a5, a6, a7, a8, a9, a10⟩
set_option maxHeartbeats 3200000 in
theorem retire_any (h : Ar b w col z s) (line cl : Int) (d : Nat) (anti : Int) : Calls Tryz.prog 34 #[.pointer (some ⟨z.ap, 0, none⟩), .int .i64 line, .int .i64 cl, .int .u64 (d : Nat), .int .i64 anti] w fun e w' => e = .returned (.tuple #[]) ∧ ArTo b w col z { s with B := putB s.B ⟨line, cl, s.now, d, anti⟩ } w' := by
  obtain ⟨-, -, a5, -, a7, -⟩ := h.at_
  obtain ⟨R, hR⟩ : ∃ R, (fun e w' => e = Ending.returned (.tuple #[]) ∧ ArTo b w col z { s with B := putB s.B ⟨line, cl, s.now, d, anti⟩ } w') = R := ⟨_, rfl⟩
  have HNW : Hid (∀ k, Calls Tryz.prog 71 #[.pointer (some ⟨z.rp, 0, none⟩)] (w.drewN k) fun e w' => e = .returned (.int .u64 (s.now : Nat)) ∧ w.drewN k = w') := fun k => rdnow_any (h.drewN k).rd
  have HPU : Hid (Calls Tryz.prog 70 #[.pointer (some ⟨z.bp, 0, none⟩), .agg #[.int .i64 line, .int .i64 cl, .int .u64 (s.now : Nat), .int .u64 (d : Nat), .int .i64 anti]] w.drew fun x w' => x = .returned (.int .i64 (putE s.B ⟨line, cl, s.now, d, anti⟩)) ∧ w'.cell? ⟨z.ap, 5, none⟩ = some (.pointer (some ⟨z.rp, 0, none⟩)) ∧ w'.cell? ⟨z.ap, 7, none⟩ = some (.pointer (some ⟨z.bp, 0, none⟩)) ∧ R (.returned (.tuple #[])) w') := by
    refine (bgput_any (h.drewN 1).bg (h.drewN 1).lo ⟨line, cl, s.now, d, anti⟩).mono ?_
    rintro x w' ⟨rfl, hb⟩
    have hb' : BgTo w z.bp z.blo z.bq (putB s.B ⟨line, cl, s.now, d, anti⟩) w' := by
      obtain ⟨q', h1, h2, h3⟩ := hb
      exact ⟨q', h1, ⟨h2.os, h2.tape, h2.output, h2.size, h2.block⟩, h3⟩
    have hto := h.setBag hb'
    obtain ⟨-, -, t5, -, t7, -⟩ := hto.at_
    exact ⟨rfl, t5, t7, by rw [← hR]; exact ⟨rfl, hto⟩⟩
  rw [hR]
  generalize z.ap = ap at *
  generalize z.rp = rp at *
  generalize z.bp = bp at *
  generalize putE s.B ⟨line, cl, s.now, d, anti⟩ = pe at *
  generalize s.now = now at *
  clear h hR
  go_enter Tryz.func34, Tryz.ntmps34
  go_upto_region 0 with fail
  go_region_held3 (fun W => W.cell? ⟨ap, 5, none⟩ = some (.pointer (some ⟨rp, 0, none⟩)) ∧ W.cell? ⟨ap, 7, none⟩ = some (.pointer (some ⟨bp, 0, none⟩))) (go_keep)
    (first
      | (go_at_call 71; refine (HNW.out 1).mono ?_; rintro e w2 ⟨rfl, rfl⟩)
      | (go_at_call 70; refine HPU.out.mono ?_; rintro e w3 ⟨rfl, t5, t7, hr⟩; have HRR := Lib.hid hr; clear hr)
      | fail)
  refine bodyPost_end (results_none rfl _ _ _) rfl ?_
  exact HRR.out
end

end Go.Proofs.YtlghphccmgmomaaGreat

/-
  Proved here: storeHead, package arena.
  Conditions: texts of at most 2000 bytes.
-/
namespace Go.Proofs.YtlghphccmgmomaaGreat
open Go Go.RowKit
set_option maxRecDepth 100000

open Classical
section
variable {b : Nat} {w w' : World} {col : Nat → Nat} {z : Pz} {s : Az}
/-- What storeHead makes of the device. -/
noncomputable def headD (d : St) (line : Int) (x : BV) : St := if mayB x then d.store line 0 ((linesL x).take 64) else d
theorem may_span {x : BV} (h : mayB x = true) : 1 ≤ spanN x.cl ∧ spanN x.cl ≤ 8 := by
  have hc : 0 ≤ x.cl ∧ x.cl ≤ 3 := by
    unfold mayB at h
    split at h
    · assumption
    · cases h
  have : x.cl = 0 ∨ x.cl = 1 ∨ x.cl = 2 ∨ x.cl = 3 := by omega
  rcases this with e | e | e | e <;> rw [e] <;> decide
theorem byte_own {w : World} {base n : Nat} {v : Value} {l : List UInt8} (h : w.ownsRow base 5 1 v n (enc l)) (hn : 0 < n) : ∃ g cap, v = .slice (some ⟨g, 0, none⟩) n cap ∧ n ≤ cap := by
  rcases h.2 with ⟨_, e0⟩ | ⟨g, cap, cur, e, _, _, h1, _⟩
  · omega
  · exact ⟨g, cap, e, h1⟩
theorem enc_ok2 (x : BV) (ho : x.ok) (hm : mayB x = true) (w : World) : Calls Tryz.prog 116 #[x.agg] w fun e w' => ∃ g cap, e = .returned (.tuple #[.slice (some ⟨g, 0, none⟩) (linesL x).length cap, .int .i64 0]) ∧ 64 ≤ (linesL x).length ∧ (linesL x).length ≤ cap ∧ Row w' (some ⟨g, 0, none⟩) ((linesL x).take 64) ∧ Below w.heap.size w w' := by
  refine (enc_ok x ho hm w).mono ?_
  rintro e w' ⟨V, rfl, hown, hb⟩
  have h64 : 64 ≤ (linesL x).length := by rw [linesL_len hm]; have := may_span hm; omega
  have hbig : (linesL x).length ≤ 1073741824 := by rw [linesL_len hm]; have := may_span hm; omega
  obtain ⟨g, cap, rfl, hcap⟩ := byte_own hown (by omega)
  obtain ⟨A, c2, e2, hr⟩ := row_of_own hown hbig
  cases e2
  have := hr.part 0 64 (by omega)
  rw [List.drop_zero] at this
  exact ⟨g, cap, rfl, h64, hcap, this, hb⟩
set_option maxHeartbeats 3200000 in
theorem storehead_any (h : Ar b w col z s) (line : Int) (x : BV) (ho : x.ok) (hks : x.key.size ≤ 2000) (hvs : x.val.size ≤ 2000) : Calls Tryz.prog 106 #[.agg #[.pointer (some ⟨z.dp, 0, none⟩)], .int .i64 line, .agg #[.int .i64 x.cl, .int .i64 x.kd, .int .u64 (x.id : Nat), .int .u64 (x.ver : Nat), .int .u64 (x.ep : Nat), .string x.key, .string x.val]] w fun e w' => e = .returned (.tuple #[]) ∧ ArTo b w col z { s with d := headD s.d line x } w' := by
  obtain ⟨g, hg⟩ : ∃ g, w.heap.size = g := ⟨_, rfl⟩
  obtain ⟨w1, hw1⟩ : ∃ w1, w.alloc (.cells #[.pointer (some ⟨z.dp, 0, none⟩)] 71) = w1 := ⟨_, rfl⟩
  have hx1 : w1.heap[g]? = some (.cells #[.pointer (some ⟨z.dp, 0, none⟩)] 71 (0, 0)) := by rw [← hw1, ← hg]; exact heap_alloc_new w _
  have hb1 : Below g w w1 := by rw [← hw1, ← hg]; exact (Below.refl _ _).alloc (Nat.le_refl _) _
  obtain ⟨gb, hgb⟩ : ∃ g, w1.heap.size = g := ⟨_, rfl⟩
  obtain ⟨w2, hw2⟩ : ∃ w2, w1.alloc (.cells #[.int .i64 x.cl, .int .i64 x.kd, .int .u64 (x.id : Nat), .int .u64 (x.ver : Nat), .int .u64 (x.ep : Nat), .string x.key, .string x.val] 95) = w2 := ⟨_, rfl⟩
  have HX2 : Hid (Box w2 gb x) := by rw [← hw2, ← hgb]; exact heap_alloc_new w1 _
  have hb2 : Below gb w1 w2 := by rw [← hw2, ← hgb]; exact (Below.refl _ _).alloc (Nat.le_refl _) _
  have HG : Hid (g < gb ∧ gb < w2.heap.size) := ⟨hgb ▸ lt_of_heap hx1, HX2.out.lt⟩
  have HD2 : Hid (w2.heap[g]? = some (.cells #[.pointer (some ⟨z.dp, 0, none⟩)] 71 (0, 0))) := (hb2.block g HG.out.1).trans hx1
  have HB2 : Hid (Below g w w2) := hb1.trans (hb2.mono (Nat.le_of_lt HG.out.1))
  obtain ⟨R, hR⟩ : ∃ R, (fun e w' => e = Ending.returned (.tuple #[]) ∧ ArTo b w col z { s with d := headD s.d line x } w') = R := ⟨_, rfl⟩
  have HNO : Hid (mayB x = false → ∀ W, Below g w W → R (.returned (.tuple #[])) W) := fun hm W hW => by
    rw [← hR]
    refine ⟨rfl, ?_⟩
    have : headD s.d line x = s.d := by unfold headD; rw [hm]; rfl
    rw [this]
    exact ArTo.refl h (hg.symm ▸ hW)
  have hdp : z.dp < g ∧ z.dq < g := ⟨hg ▸ h.lt (i := 1) (by omega) (.inl rfl), hg ▸ h.lt (i := 1) (by omega) (.inr rfl)⟩
  have HST : Hid (∀ W gv cap, Below g w W → W.heap[g]? = some (.cells #[.pointer (some ⟨z.dp, 0, none⟩)] 71 (0, 0)) → mayB x = true → Row W (some ⟨gv, 0, none⟩) ((linesL x).take 64) → 64 ≤ (linesL x).length → Calls Tryz.prog 67 #[.pointer (some ⟨z.dp, 0, none⟩), .int .i64 line, .int .i64 0, .slice (some ⟨gv, 0, none⟩) 64 cap] W fun e w' => ∃ k, e = .returned (.int .i64 k) ∧ w'.cell? ⟨g, 0, none⟩ = some (.pointer (some ⟨z.dp, 0, none⟩)) ∧ R (.returned (.tuple #[])) w') := fun W gv cap hW hgW hm hr h64 => by
    have hl : ((linesL x).take 64).length = 64 := by rw [List.length_take]; omega
    refine (store_any (h.below (hg.symm ▸ hW)).dv line 0 (some ⟨gv, 0, none⟩) 64 cap _ hl hr (by intro e; cases e)).mono ?_
    rintro e w' ⟨rfl, hd, ht⟩
    refine ⟨_, rfl, ?_, ?_⟩
    · have := ht.block g (by omega) (by omega) (lt_of_heap hgW)
      simp [World.cell?, this, hgW]
    · rw [← hR]
      refine ⟨rfl, ?_⟩
      have e : headD s.d line x = s.d.store line 0 ((linesL x).take 64) := by unfold headD; rw [hm]; rfl
      rw [e]
      have hs1 := Stay.of_below (S := fun k => k = z.dp ∨ k = z.dq) (hg.symm ▸ hW)
      exact h.setDev hd ⟨ht.os.trans hW.os, ht.tape.trans hW.tape, ht.output.trans hW.output, Nat.le_trans hW.size ht.size, fun k h1 h2 hl => (ht.block k h1 h2 (Nat.lt_of_lt_of_le hl hW.size)).trans (hW.block k (hg ▸ hl))⟩
  have HEN := Lib.hid (fun (hm : mayB x = false) W => enc_no x hks hvs hm W)
  have HEY := Lib.hid (fun (hm : mayB x = true) W => enc_ok2 x ho hm W)
  unfold BV.agg at HEN HEY
  rw [hR]
  cases hm : mayB x with
  | false =>
    have HEN2 := Lib.hid (HEN.out hm)
    have HNO2 := Lib.hid (HNO.out hm)
    clear HEN HEY HST HNO hR h ho hks hvs hx1 hb1 hb2 hdp
    obtain ⟨x0, x1, x2, x3, x4, x5, x6⟩ := x
    simp only at *
    generalize z.dp = dp at *
    obtain ⟨c0, c1, c2, c3, c4, c5, c6⟩ := HX2.out.cells
    go_enter Tryz.func106, Tryz.ntmps106
    go_wp2_with fail
    refine (HEN2.out w2).mono ?_
    rintro e w3 ⟨rfl, b3⟩
    have HB3 : Hid (Below g w w3) := HB2.out.trans (b3.mono (Nat.le_of_lt (Nat.lt_trans HG.out.1 HG.out.2)))
    clear b3
    go_wp2
    refine bodyPost_end (results_none rfl _ _ _) rfl ?_
    exact HNO2.out _ HB3.out
  | true =>
    have HEY2 := Lib.hid (HEY.out hm)
    have HST2 := Lib.hid (fun W gv cap h1 h2 h3 h4 => HST.out W gv cap h1 h2 hm h3 h4)
    clear HEN HEY HST HNO hR h ho hks hvs hx1 hb1 hb2 hdp
    generalize linesL x = LL at *
    obtain ⟨x0, x1, x2, x3, x4, x5, x6⟩ := x
    simp only at *
    generalize z.dp = dp at *
    obtain ⟨c0, c1, c2, c3, c4, c5, c6⟩ := HX2.out.cells
    go_enter Tryz.func106, Tryz.ntmps106
    go_wp2_with fail
    refine (HEY2.out w2).mono ?_
    rintro e w3 ⟨gv, cap, rfl, h64, hcap, hr3, b3⟩
    have HB3 : Hid (Below g w w3) := HB2.out.trans (b3.mono (Nat.le_of_lt (Nat.lt_trans HG.out.1 HG.out.2)))
    have HD3 := Lib.hid ((b3.block g (Nat.lt_trans HG.out.1 HG.out.2)).trans HD2.out)
    have d0 : w3.cell? ⟨g, 0, none⟩ = some (.pointer (some ⟨dp, 0, none⟩)) := by have hh := HD3.out; simp [World.cell?, hh]
    have HCC := Lib.hid (HST2.out w3.drew gv cap HB3.out.drew HD3.out (hr3.below (below_drewN (Below.refl _ _) 1)) h64)
    have hc1 : (64 : Int) ≤ (cap : Int) := by omega
    have hc0 : (0 : Int) ≤ (64 : Int) := by omega
    clear b3 hr3 c0 c1 c2 c3 c4 c5 c6
    go_upto_region 3 with fail
    go_region_held3 (fun W => W.cell? ⟨g, 0, none⟩ = some (.pointer (some ⟨dp, 0, none⟩))) (go_keep)
      (first
        | (go_at_call 67; refine HCC.out.mono ?_; rintro e w4 ⟨k, rfl, t0, hr⟩; have HRR := Lib.hid hr; clear hr)
        | fail)
    all_goals
      go_wp2
      refine bodyPost_end (results_none rfl _ _ _) rfl ?_
      exact HRR.out
end

end Go.Proofs.YtlghphccmgmomaaGreat
