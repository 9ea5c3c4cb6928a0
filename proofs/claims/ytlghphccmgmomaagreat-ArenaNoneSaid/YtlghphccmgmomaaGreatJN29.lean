/-
  Proved here, joined: FiE14, FiF14, FiG14
  Conditions: as each part says.
-/
import Derived.Test.YtlghphccmgmomaaGreatJN28

/-
  Proved here: what a push leaves.
  Conditions: at most 2,040 links, 4,095 places.
-/
namespace Go.Proofs.YtlghphccmgmomaaGreat
open Go Go.RowKit
set_option maxRecDepth 100000

set_option maxHeartbeats 3200000 in
set_option maxRecDepth 100000 in
theorem rpush_any {w : World} {p f : Nat} {v : Value} {P L : List Ln} (h : Fi w p v f P L) (hl : L.length ≤ 2040) (x : Ln) :
    Calls Tryz.prog 156 #[.pointer (some ⟨p, 0, none⟩), .agg #[.string x.str, .int .u64 (x.id : Nat), .int .u64 (x.ver : Nat), .int .i64 x.line, .int .i64 x.cl]] w fun e w' => e = .returned (.tuple #[]) ∧ FiTo w p v (L ++ [x]) w' := by
  obtain ⟨R, hR⟩ : ∃ R : Ending → World → Prop, (fun e w' => e = .returned (.tuple #[]) ∧ FiTo w p v (L ++ [x]) w') = R := ⟨_, rfl⟩
  rw [hR]
  obtain ⟨g, hg⟩ : ∃ g, w.heap.size = g := ⟨_, rfl⟩
  obtain ⟨n, hn⟩ : ∃ n, L.length = n := ⟨_, rfl⟩
  obtain ⟨m, hm⟩ : ∃ m, P.length = m := ⟨_, rfl⟩
  have hfit := h.ring.fits
  rw [hn, hm] at hfit
  rw [hn] at hl
  obtain ⟨v0, hv0⟩ : ∃ v0, w.alloc (.cells #[.string x.str, .int .u64 (x.id : Nat), .int .u64 (x.ver : Nat), .int .i64 x.line, .int .i64 x.cl] 29) = v0 := ⟨_, rfl⟩
  have hb0 : Below g w v0 := by rw [← hv0, ← hg]; exact (Below.refl _ _).alloc (Nat.le_refl _) _
  have hx0 : v0.heap[g]? = some (.cells #[.string x.str, .int .u64 (x.id : Nat), .int .u64 (x.ver : Nat), .int .i64 x.line, .int .i64 x.cl] 29 (0, 0)) := by rw [← hv0, ← hg]; exact heap_alloc_new w _
  have hf0 : Fi v0 p v f P L := h.below (hg.symm ▸ hb0)
  have hng : ¬ fiOwn p v g := fun e => by have := h.lt e; omega
  have HEND : Hid (∀ w2 (v2 : Value) (f2 : Nat) (P2 : List Ln) b m2 cap r, Fi w2 p v2 f2 P2 L → v2 = .slice (some ⟨b, 0, none⟩) m2 cap → P2.length = m2 → n < m2 → (f2 + n) % m2 = r → Stay (fiOwn p v) w w2 → (∀ k, fiOwn p v2 k → fiOwn p v k ∨ g ≤ k) →
      R (.returned (.tuple #[])) ((((((w2.setCell ⟨b, r * 5, none⟩ (.string x.str)).setCell ⟨b, r * 5 + 1, none⟩ (.int .u64 (x.id : Nat))).setCell ⟨b, r * 5 + 2, none⟩ (.int .u64 (x.ver : Nat))).setCell ⟨b, r * 5 + 3, none⟩ (.int .i64 x.line)).setCell ⟨b, r * 5 + 4, none⟩ (.int .i64 x.cl)).setCell ⟨p, 2, none⟩ (.int .i64 ((n : Int) + 1)))) := fun w2 v2 f2 P2 b m2 cap r h1 h2 h3 h4 h5 h6 h7 => by
    subst h2
    rw [← hR]
    obtain ⟨k1, k2⟩ := h1.pushed h3 (by omega) x hn h5
    exact ⟨rfl, _, _, _, k1, h6.new k2 (fun k hk => by rw [hg]; exact h7 k hk), by rw [hg]; exact h7⟩
  have HGR : Hid (n = m → ∀ k, Calls Tryz.prog 193 #[.pointer (some ⟨p, 0, none⟩)] (v0.drewN k) fun e w' => e = .returned (.tuple #[]) ∧ GrowTo (v0.drewN k) p v m L w') := fun e k => by
    have := rgrow_any (hf0.drewN k) (by omega) (by omega)
    rwa [hm] at this
  have HW1 : Hid (IntKind.i64.wrap ((n : Int) + 1) = (n : Int) + 1) := by show _ = _; rw [IntKind.wrap_i64]; omega
  obtain ⟨A, cap, hv, _, _⟩ := h.reads
  rw [hm] at hv
  obtain ⟨c0, c1, c2⟩ := hf0.cells
  rw [hn] at c2
  rw [hv] at c0
  have HF0 := Lib.hid hf0
  have HX0 := Lib.hid hx0
  have HNG := Lib.hid hng
  have HS0 : Hid (Stay (fiOwn p v) w v0) := Stay.of_below (hg.symm ▸ hb0)
  have HSM := Lib.hid h.small
  have HG0 : Hid (g < v0.heap.size) := lt_of_heap hx0
  have HVL : Hid (∀ k, fiOwn p v k → k < g) := fun k hk => hg ▸ h.lt hk
  have HN := Lib.hid hn
  have HMM := Lib.hid hm
  have HV := Lib.hid hv
  clear h hR hf0 hx0 hng hb0 hv hn hm
  generalize x.str = x0 at *
  generalize (x.id : Int) = x1 at *
  generalize (x.ver : Int) = x2 at *
  generalize x.line = x3 at *
  generalize x.cl = x4 at *
  go_enter Tryz.func156, Tryz.ntmps156
  by_cases hnm : n = m
  · have hnn : ((n : Int) == (m : Int)) = true := by simp [hnm]
    have HGR2 := Lib.hid (HGR.out hnm)
    have HNM : Hid (n = m) := hnm
    clear HGR
    go_wp2
    go_quiet (fail)
    go_wp2_with fail
    refine (HGR2.out _).mono ?_
    rintro e w2 ⟨rfl, v2, hf2, hst2, how2⟩
    obtain ⟨f2, hzero⟩ : ∃ f2, 0 = f2 := ⟨_, rfl⟩
    obtain ⟨P2, hP2⟩ : ∃ P2, L ++ List.replicate (m + 1) Ln.zero = P2 := ⟨_, rfl⟩
    obtain ⟨m2, hm2⟩ : ∃ m2, P2.length = m2 := ⟨_, rfl⟩
    have HM2 := Lib.hid hm2
    have HR2 : Hid (n < m2) := by show _ < _; rw [← hm2, ← hP2]; simp [HN.out]
    rw [hP2, hzero] at hf2
    have HF2 := Lib.hid hf2
    have HST2 : Hid (Stay (fiOwn p v) w w2) := (HS0.out.drewN nq).trans hst2
    have HOW2 : Hid (∀ k, fiOwn p v2 k → fiOwn p v k ∨ g ≤ k) := fun k hk => (how2 k hk).imp id (fun h => Nat.le_trans (Nat.le_of_lt HG0.out) h)
    have HX2 := Lib.hid ((hst2.block g HNG.out HG0.out).trans HX0.out)
    have HNG2 : Hid (¬ fiOwn p v2 g) := fun e => by
      rcases how2 g e with e | e
      · exact HNG.out e
      · have h1 : v0.heap.size ≤ g := e
        have := HG0.out
        omega
    clear hf2 hst2 how2 hzero hP2 hm2 hnm hnn c0 c1 c2

    obtain ⟨b, cap2, hv2⟩ := own_where HF2.out.row (by have := HM2.out; have := HR2.out; omega)
    rw [HM2.out] at hv2
    subst hv2
    obtain ⟨d0, d1, d2⟩ := HF2.out.cells
    rw [HN.out] at d2
    obtain ⟨q0, q1, q2, q3, q4⟩ := cellsL HX2.out
    have hm0 : 0 < m2 := by have := HR2.out; omega
    have hf2 := HF2.out.ring.first_lt (by have := HM2.out; omega)
    rw [HM2.out] at hf2
    have HSM2 : Hid (m2 ≤ 4095) := HM2.out ▸ HF2.out.small
    have HC := Lib.hid (place_of (w := w2.drew) (i := n) d0 d1 hm0 HSM2.out hf2 (by have := HR2.out; omega))
    obtain ⟨r, hr⟩ : ∃ r, (f2 + n) % m2 = r := ⟨_, rfl⟩
    have hrm : r < m2 := by rw [← hr]; exact Nat.mod_lt _ hm0
    have hrmi : (r : Int) < (m2 : Int) := by omega
    rw [hr] at HC
    have HRR := Lib.hid hr
    have d0d : w2.drew.cell? ⟨p, 0, none⟩ = some (.slice (some ⟨b, 0, none⟩) m2 cap2) := d0
    have d2d : w2.drew.cell? ⟨p, 2, none⟩ = some (.int .i64 (n : Nat)) := d2
    have q0d : w2.drew.cell? ⟨g, 0, none⟩ = some (.string x0) := q0
    have q1d : w2.drew.cell? ⟨g, 1, none⟩ = some (.int .u64 x1) := q1
    have q2d : w2.drew.cell? ⟨g, 2, none⟩ = some (.int .u64 x2) := q2
    have q3d : w2.drew.cell? ⟨g, 3, none⟩ = some (.int .i64 x3) := q3
    have q4d : w2.drew.cell? ⟨g, 4, none⟩ = some (.int .i64 x4) := q4
    have hbp : b ≠ p := fun e => HF2.out.self (by rw [e]; rfl)
    have hbg : b ≠ g := fun e => HNG2.out (.inr (by rw [e]; rfl))
    have hpw : p < w2.heap.size := HF2.out.lt (.inl rfl)
    have hgw : g < w2.heap.size := lt_of_heap HX2.out
    have HRL : Hid (r < P2.length) := by have := HM2.out; show _ < _; omega
    clear hr hf2
    go_wp2
    go_region_held3 (fun w' => w'.cell? ⟨p, 0, none⟩ = some (.slice (some ⟨b, 0, none⟩) m2 cap2) ∧ w'.cell? ⟨p, 2, none⟩ = some (.int .i64 (n : Nat)) ∧ w'.cell? ⟨g, 0, none⟩ = some (.string x0) ∧ w'.cell? ⟨g, 1, none⟩ = some (.int .u64 x1) ∧ w'.cell? ⟨g, 2, none⟩ = some (.int .u64 x2) ∧ w'.cell? ⟨g, 3, none⟩ = some (.int .i64 x3) ∧ w'.cell? ⟨g, 4, none⟩ = some (.int .i64 x4)) (go_keep)
      (first
        | (go_at_call 125; refine HC.out.mono ?_; rintro e w3 ⟨rfl, k, hk⟩; have hb3 : Below w2.heap.size w2 w3 := (by rw [hk]; exact below_drewN ((Below.refl _ _).drew) k); clear hk; have e0 := (hb3.cell (p := ⟨p, 0, none⟩) hpw).trans d0; have e2 := (hb3.cell (p := ⟨p, 2, none⟩) hpw).trans d2; have s0 := (hb3.cell (p := ⟨g, 0, none⟩) hgw).trans q0; have s1 := (hb3.cell (p := ⟨g, 1, none⟩) hgw).trans q1; have s2 := (hb3.cell (p := ⟨g, 2, none⟩) hgw).trans q2; have s3 := (hb3.cell (p := ⟨g, 3, none⟩) hgw).trans q3; have s4 := (hb3.cell (p := ⟨g, 4, none⟩) hgw).trans q4; have hf3 := HF2.out.below hb3; have hro3 := hf3.row; rw [HM2.out] at hro3; obtain ⟨⟨u0, t0⟩, ⟨u1, t1⟩, ⟨u2, t2⟩, ⟨u3, t3⟩, ⟨u4, t4⟩, hfr⟩ := own_five hro3 HRL.out; have f0 := hfr (r * 5); have f1 := hfr (r * 5 + 1); have f2' := hfr (r * 5 + 2); have f3 := hfr (r * 5 + 3); have f4 := hfr (r * 5 + 4); have HF3 := Lib.hid hf3; have HST3 := Lib.hid (HST2.out.trans (Stay.of_below hb3)); clear hf3 hro3 hfr hb3))
    have e6 := (cell_set5 (w := w3) hbp (r * 5) 2 (.string x0) (.int .u64 x1) (.int .u64 x2) (.int .i64 x3) (.int .i64 x4)).trans e2
    have f6 := (frozen_set5 (w := w3) (b := b) (p := p) (r * 5) 2 (.string x0) (.int .u64 x1) (.int .u64 x2) (.int .i64 x3) (.int .i64 x4)).trans (HF3.out.frozen 2)
    have hw1 := HW1.out
    go_wp2
    refine bodyPost_end (results_none rfl _ _ _) rfl ?_
    exact HEND.out _ _ _ _ _ _ _ _ HF3.out rfl HM2.out HR2.out HRR.out HST3.out HOW2.out
  · have hnn : ((n : Int) == (m : Int)) = false := by simp; omega
    have HR2 : Hid (n < m) := by show _ < _; omega
    clear HGR
    go_wp2
    go_quiet (fail)
    obtain ⟨w2, hw2⟩ : ∃ w2, v0.drewN nq = w2 := ⟨_, rfl⟩
    rw [hw2]
    have HF2 : Hid (Fi w2 p v f P L) := hw2 ▸ HF0.out.drewN nq
    have HST2 : Hid (Stay (fiOwn p v) w w2) := hw2 ▸ HS0.out.drewN nq
    have HOW2 : Hid (∀ k, fiOwn p v k → fiOwn p v k ∨ g ≤ k) := fun k hk => .inl hk
    have HX2 : Hid (w2.heap[g]? = some (.cells #[.string x0, .int .u64 x1, .int .u64 x2, .int .i64 x3, .int .i64 x4] 29 (0, 0))) := hw2 ▸ HX0.out
    have HNG2 := HNG
    have HM2 := HMM
    obtain ⟨f2, hf⟩ : ∃ f2, f = f2 := ⟨_, rfl⟩
    obtain ⟨P2, hP2⟩ : ∃ P2, P = P2 := ⟨_, rfl⟩
    obtain ⟨m2, hm2⟩ : ∃ m2, m = m2 := ⟨_, rfl⟩
    subst hf hP2 hm2
    clear hw2 hnm hnn c0 c1 c2

    obtain ⟨b, cap2, hv2⟩ := own_where HF2.out.row (by have := HM2.out; have := HR2.out; omega)
    rw [HM2.out] at hv2
    subst hv2
    obtain ⟨d0, d1, d2⟩ := HF2.out.cells
    rw [HN.out] at d2
    obtain ⟨q0, q1, q2, q3, q4⟩ := cellsL HX2.out
    have hm0 : 0 < m := by have := HR2.out; omega
    have hf := HF2.out.ring.first_lt (by have := HM2.out; omega)
    rw [HM2.out] at hf
    have HSM2 : Hid (m ≤ 4095) := HM2.out ▸ HF2.out.small
    have HC := Lib.hid (place_of (w := w2.drew) (i := n) d0 d1 hm0 HSM2.out hf (by have := HR2.out; omega))
    obtain ⟨r, hr⟩ : ∃ r, (f + n) % m = r := ⟨_, rfl⟩
    have hrm : r < m := by rw [← hr]; exact Nat.mod_lt _ hm0
    have hrmi : (r : Int) < (m : Int) := by omega
    rw [hr] at HC
    have HRR := Lib.hid hr
    have d0d : w2.drew.cell? ⟨p, 0, none⟩ = some (.slice (some ⟨b, 0, none⟩) m cap2) := d0
    have d2d : w2.drew.cell? ⟨p, 2, none⟩ = some (.int .i64 (n : Nat)) := d2
    have q0d : w2.drew.cell? ⟨g, 0, none⟩ = some (.string x0) := q0
    have q1d : w2.drew.cell? ⟨g, 1, none⟩ = some (.int .u64 x1) := q1
    have q2d : w2.drew.cell? ⟨g, 2, none⟩ = some (.int .u64 x2) := q2
    have q3d : w2.drew.cell? ⟨g, 3, none⟩ = some (.int .i64 x3) := q3
    have q4d : w2.drew.cell? ⟨g, 4, none⟩ = some (.int .i64 x4) := q4
    have hbp : b ≠ p := fun e => HF2.out.self (by rw [e]; rfl)
    have hbg : b ≠ g := fun e => HNG2.out (.inr (by rw [e]; rfl))
    have hpw : p < w2.heap.size := HF2.out.lt (.inl rfl)
    have hgw : g < w2.heap.size := lt_of_heap HX2.out
    have HRL : Hid (r < P.length) := by have := HM2.out; show _ < _; omega
    clear hr hf
    go_wp2
    go_region_held3 (fun w' => w'.cell? ⟨p, 0, none⟩ = some (.slice (some ⟨b, 0, none⟩) m cap2) ∧ w'.cell? ⟨p, 2, none⟩ = some (.int .i64 (n : Nat)) ∧ w'.cell? ⟨g, 0, none⟩ = some (.string x0) ∧ w'.cell? ⟨g, 1, none⟩ = some (.int .u64 x1) ∧ w'.cell? ⟨g, 2, none⟩ = some (.int .u64 x2) ∧ w'.cell? ⟨g, 3, none⟩ = some (.int .i64 x3) ∧ w'.cell? ⟨g, 4, none⟩ = some (.int .i64 x4)) (go_keep)
      (first
        | (go_at_call 125; refine HC.out.mono ?_; rintro e w3 ⟨rfl, k, hk⟩; have hb3 : Below w2.heap.size w2 w3 := (by rw [hk]; exact below_drewN ((Below.refl _ _).drew) k); clear hk; have e0 := (hb3.cell (p := ⟨p, 0, none⟩) hpw).trans d0; have e2 := (hb3.cell (p := ⟨p, 2, none⟩) hpw).trans d2; have s0 := (hb3.cell (p := ⟨g, 0, none⟩) hgw).trans q0; have s1 := (hb3.cell (p := ⟨g, 1, none⟩) hgw).trans q1; have s2 := (hb3.cell (p := ⟨g, 2, none⟩) hgw).trans q2; have s3 := (hb3.cell (p := ⟨g, 3, none⟩) hgw).trans q3; have s4 := (hb3.cell (p := ⟨g, 4, none⟩) hgw).trans q4; have hf3 := HF2.out.below hb3; have hro3 := hf3.row; rw [HM2.out] at hro3; obtain ⟨⟨u0, t0⟩, ⟨u1, t1⟩, ⟨u2, t2⟩, ⟨u3, t3⟩, ⟨u4, t4⟩, hfr⟩ := own_five hro3 HRL.out; have f0 := hfr (r * 5); have f1 := hfr (r * 5 + 1); have f' := hfr (r * 5 + 2); have f3 := hfr (r * 5 + 3); have f4 := hfr (r * 5 + 4); have HF3 := Lib.hid hf3; have HST3 := Lib.hid (HST2.out.trans (Stay.of_below hb3)); clear hf3 hro3 hfr hb3))
    have e6 := (cell_set5 (w := w3) hbp (r * 5) 2 (.string x0) (.int .u64 x1) (.int .u64 x2) (.int .i64 x3) (.int .i64 x4)).trans e2
    have f6 := (frozen_set5 (w := w3) (b := b) (p := p) (r * 5) 2 (.string x0) (.int .u64 x1) (.int .u64 x2) (.int .i64 x3) (.int .i64 x4)).trans (HF3.out.frozen 2)
    have hw1 := HW1.out
    go_wp2
    refine bodyPost_end (results_none rfl _ _ _) rfl ?_
    exact HEND.out _ _ _ _ _ _ _ _ HF3.out rfl HM2.out HR2.out HRR.out HST3.out HOW2.out

end Go.Proofs.YtlghphccmgmomaaGreat

/-
  Proved here: what a pop leaves of an empty list.
  Conditions: at most 2,040 links, 4,095 places.
-/
namespace Go.Proofs.YtlghphccmgmomaaGreat
open Go Go.RowKit
set_option maxRecDepth 100000

/-- At a step of a region that draws its order: a clear whose run is known. -/
theorem step_clearR {P : Program} {ops : Array Oper} {o : Oper} {a : Act} {K : Act → World → Prop} {Q : Exit → Act → World → Prop} {E : Prop} (hgd : o.guard = none) (s : Operand) (t : TypeId)
    (ho : o.op = .call { callee := .builtin .clear, args := #[s], argTypes := #[t] }) {w w' : World} {v v' : Value} (hs : a.eval s = v)
    (hrun : (Builtin.clear_ #[t] o.type #[v]).run P w = .ok v' w') (h : K (a.put o.dst v') w') : if Region.wanted o (yielded ops a.tmps) = true then Oper.wp P o a w K Q else E := by
  have hw : Region.wanted o (yielded ops a.tmps) = true := by simp [Region.wanted, hgd]
  rw [if_pos hw]
  unfold Oper.wp execOp
  simp only [ho, resolve, invoke, builtin, Sem.run_bind, Sem.run_pure, Result.andThen_ok, List.map_toArray, List.map_cons, List.map_nil, hs, hrun]
  exact h
theorem rhead_any {w : World} {p f : Nat} {v : Value} {P L : List Ln} (h : Fi w p v f P L) : Calls Tryz.prog 100 #[.pointer (some ⟨p, 0, none⟩)] w fun e w' => e = .returned (hdV L) ∧ Below w.heap.size w w' := by
  cases L with
  | nil => exact rhead_no h
  | cons x L => exact rhead_yes h
theorem grown_below14 {w w1 w2 : World} {b : Option Nat} (h : w.grownBy w1 b) (hb : Below w1.heap.size w1 w2) : w.grownBy w2 b :=
  ⟨hb.os.trans h.os, hb.tape.trans h.tape, hb.output.trans h.output, Nat.le_trans h.size hb.size, fun k hk hne => (hb.block k (Nat.lt_of_lt_of_le hk h.size)).trans (h.block k hk hne)⟩
/-- Behind a pop: the place is cleared (w1); more has been made (w2). -/
theorem Fi.popped {w w1 w2 : World} {p f b m cap n r : Nat} {P L : List Ln} {x : Ln} (h : Fi w p (.slice (some ⟨b, 0, none⟩) m cap) f P (x :: L)) (hm : P.length = m) (hn : L.length = n) (hr : (f + 1) % m = r) (h1 : w.setCells b (f * 5) Ln.zero.cells = w1) (hb : Below w1.heap.size w1 w2) :
    Fi ((w2.setCell ⟨p, 1, none⟩ (.int .i64 (r : Nat))).setCell ⟨p, 2, none⟩ (.int .i64 (n : Nat))) p (.slice (some ⟨b, 0, none⟩) m cap) r (P.set f Ln.zero) L ∧
      Stay (fiOwn p (.slice (some ⟨b, 0, none⟩) m cap)) w ((w2.setCell ⟨p, 1, none⟩ (.int .i64 (r : Nat))).setCell ⟨p, 2, none⟩ (.int .i64 (n : Nat))) ∧
      w2.cell? ⟨p, 0, none⟩ = some (.slice (some ⟨b, 0, none⟩) m cap) ∧ w2.cell? ⟨p, 1, none⟩ = some (.int .i64 (f : Nat)) ∧ w2.cell? ⟨p, 2, none⟩ = some (.int .i64 ((n : Int) + 1)) ∧ ∀ j, w2.frozen? ⟨p, j, none⟩ = false := by
  subst hn
  have hro := h.row
  rw [hm] at hro
  obtain ⟨hf, -⟩ := h.ring.head
  obtain ⟨k1, k2⟩ := own_set5 hro Ln.zero hf
  have he : ∀ w : World, w.setCells b (f * 5) Ln.zero.cells = ((((w.setCell ⟨b, f * 5, none⟩ (.string Ln.zero.str)).setCell ⟨b, f * 5 + 1, none⟩ (.int .u64 (Ln.zero.id : Nat))).setCell ⟨b, f * 5 + 2, none⟩ (.int .u64 (Ln.zero.ver : Nat))).setCell ⟨b, f * 5 + 3, none⟩ (.int .i64 Ln.zero.line)).setCell ⟨b, f * 5 + 4, none⟩ (.int .i64 Ln.zero.cl) := fun w => rfl
  rw [← he, h1] at k1 k2
  have k3 := own_keep k1 hb
  have k4 := grown_below14 k2 hb
  have hpb : p ≠ b := fun e => h.self (by rw [e]; rfl)
  have hmem := (k4.block p (lt_of_heap h.mem) (by simp; omega)).trans h.mem
  have h2 := heap_setCell_same _ p 1 _ _ (.int .i64 (r : Nat)) hmem
  have h3 := heap_setCell_same _ p 2 _ _ (.int .i64 (L.length : Nat)) h2
  have hrg := h.ring.pop Ln.zero
  rw [hm, hr] at hrg
  obtain ⟨f1, f2⟩ := h.wrote (w1 := w2) (P' := P.set f Ln.zero) (by rw [List.length_set, hm]; exact k3) k4 (by simp) hrg (by rw [h3]; simp) ((Stay.setCell (S := fun k => k = p) _ p 1 _ rfl).trans (Stay.setCell (S := fun k => k = p) _ p 2 _ rfl))
  refine ⟨f1, f2, ?_, ?_, ?_, fun j => ?_⟩
  · simp [World.cell?, hmem]
  · simp [World.cell?, hmem]
  · simp [World.cell?, hmem]
  · simp [World.frozen?, hmem]
set_option maxHeartbeats 1600000 in
set_option maxRecDepth 100000 in
theorem rpop_no {w : World} {p f : Nat} {v : Value} {P : List Ln} (h : Fi w p v f P []) : Calls Tryz.prog 157 #[.pointer (some ⟨p, 0, none⟩)] w fun e w' => e = .returned (hdV []) ∧ Below w.heap.size w w' := by
  obtain ⟨g, hg⟩ : ∃ g, w.heap.size = g := ⟨_, rfl⟩
  have HG := Lib.hid hg
  have HZ := Lib.hid zero_link
  have HEZ : Hid (∀ (w' : World) (g : Nat), w'.heap[g]? = some (.cells #[.string ⟨#[]⟩, .int .u64 0, .int .u64 0, .int .i64 0, .int .i64 0] 29 (0, 0)) → LBox w' g Ln.zero) := fun w' g h => h
  have HH : Hid (∀ w2, Below g w w2 → Calls Tryz.prog 100 #[.pointer (some ⟨p, 0, none⟩)] w2 fun e w' => e = .returned (.tuple #[.agg #[.string ⟨#[]⟩, .int .u64 0, .int .u64 0, .int .i64 0, .int .i64 0], .bool false]) ∧ Below w2.heap.size w2 w') := fun w2 hb => rhead_no (h.below (hg.symm ▸ hb))
  rw [hg]
  clear h
  go_enter Tryz.func157, Tryz.ntmps157
  go_wp2_with (first
    | ((with_reducible show wpList _ _ _ (⟨some 2, .alloc _, _, _, _, _⟩ :: _) _ _); refine wpList_alloc_var (o := ⟨some 2, _, _, _, _, _⟩) rfl 29 rfl g HG.out _ HZ.out ?_; intro w2 H2 B2)
    | fail)
  refine (HH.out w2 B2.out).mono ?_
  rintro e w3 ⟨rfl, hb3⟩
  have H3 := Lib.hid ((hb3.block g (lt_of_heap H2.out)).trans H2.out)
  have B3 : Hid (Below g w w3) := B2.out.trans (hb3.mono (Nat.le_of_lt (lt_of_heap H2.out)))
  obtain ⟨g3, hg3⟩ : ∃ g3, w3.heap.size = g3 := ⟨_, rfl⟩
  have HG3 := Lib.hid hg3
  have HL3 : Hid (g < g3) := hg3 ▸ lt_of_heap H3.out
  clear hb3 hg3
  go_wp2_with (first
    | ((with_reducible show wpList _ _ _ (⟨some 4, .alloc _, _, _, _, _⟩ :: _) _ _); refine wpList_alloc_var (o := ⟨some 4, _, _, _, _, _⟩) rfl 29 rfl g3 HG3.out _ HZ.out ?_; intro w4 H4 B4)
    | ((with_reducible show wpList _ _ _ (⟨none, .store _ (.tmp 4) _, _, _, _, _⟩ :: _) _ _); refine wpList_store_whole (o := ⟨none, .store 29 (.tmp 4) (.tmp 9), _, _, _, _⟩) rfl _ _ _ rfl rfl g3 #[.string ⟨#[]⟩, .int .u64 0, .int .u64 0, .int .i64 0, .int .i64 0] rfl rfl 29 _ H4.out size_link rfl (onesL _ _ _ _ _) ?_; intro w5 H5 B5; have H25 := Lib.hid (((B4.out.trans B5.out).block g HL3.out).trans H3.out); obtain ⟨q0, q1, q2, q3, q4⟩ := cellsL H5.out)
    | ((with_reducible show wpList _ _ _ (⟨none, .store _ (.tmp 2) _, _, _, _, _⟩ :: _) _ _); refine wpList_store_whole (o := ⟨none, .store 29 (.tmp 2) (.tmp 38), _, _, _, _⟩) rfl _ _ _ rfl rfl g #[.string ⟨#[]⟩, .int .u64 0, .int .u64 0, .int .i64 0, .int .i64 0] rfl rfl 29 _ H25.out size_link rfl (onesL _ _ _ _ _) ?_; intro w6 H6 B6)
    | fail)
  refine bodyPost_ret (results_l2 rfl rfl rfl (HEZ.out _ _ H6.out)) rfl ?_
  exact ⟨rfl, B3.out.trans (((B4.out.trans B5.out).mono (Nat.le_of_lt HL3.out)).trans B6.out)⟩

end Go.Proofs.YtlghphccmgmomaaGreat

/-
  Proved here: what a pop leaves of a list with links.
  Conditions: at most 4,095 places.
-/
namespace Go.Proofs.YtlghphccmgmomaaGreat
open Go Go.RowKit
set_option maxRecDepth 100000

set_option maxHeartbeats 3200000 in
set_option maxRecDepth 100000 in
theorem rpop_yes {w : World} {p f : Nat} {v : Value} {P L : List Ln} {x : Ln} (h : Fi w p v f P (x :: L)) : Calls Tryz.prog 157 #[.pointer (some ⟨p, 0, none⟩)] w fun e w' => e = .returned (hdV (x :: L)) ∧ FiTo w p v L w' := by
  obtain ⟨R, hR⟩ : ∃ R : Ending → World → Prop, (fun e w' => e = .returned (hdV (x :: L)) ∧ FiTo w p v L w') = R := ⟨_, rfl⟩
  rw [hR]
  obtain ⟨g, hg⟩ : ∃ g, w.heap.size = g := ⟨_, rfl⟩
  obtain ⟨n, hn⟩ : ∃ n, L.length = n := ⟨_, rfl⟩
  obtain ⟨m, hm⟩ : ∃ m, P.length = m := ⟨_, rfl⟩
  have hfm := h.ring.head.1
  rw [hm] at hfm
  obtain ⟨b, cap, rfl⟩ := own_where h.row (by omega)
  rw [hm] at h hR
  have hmc : m ≤ cap ∧ cap ≤ maxLen := by
    have h1 := h.row
    rw [hm] at h1
    obtain ⟨_, _, h2, h3, _⟩ := own_block h1
    exact ⟨h2, h3⟩
  have hbp : b ≠ p := fun e => h.self (by rw [e]; rfl)
  have hbg : b < g := hg ▸ h.lt (.inr rfl)
  have hpg : p < g := hg ▸ h.lt (.inl rfl)
  have HG := Lib.hid hg
  have HZ := Lib.hid zero_link
  obtain ⟨X, hX⟩ : ∃ X, x.agg = X := ⟨_, rfl⟩
  have HEB : Hid (∀ (w' : World) (g : Nat), w'.heap[g]? = some (.cells #[.string x.str, .int .u64 (x.id : Nat), .int .u64 (x.ver : Nat), .int .i64 x.line, .int .i64 x.cl] 29 (0, 0)) → LBox w' g x) := fun w' g h => h
  have HH : Hid (∀ w2, Below g w w2 → Calls Tryz.prog 100 #[.pointer (some ⟨p, 0, none⟩)] w2 fun e w' => e = .returned (.tuple #[.agg #[.string x.str, .int .u64 (x.id : Nat), .int .u64 (x.ver : Nat), .int .i64 x.line, .int .i64 x.cl], .bool true]) ∧ Below w2.heap.size w2 w') := fun w2 hb => rhead_yes (h.below (hg.symm ▸ hb))
  have HFB : Hid (∀ w2, Below g w w2 → Fi w2 p (.slice (some ⟨b, 0, none⟩) m cap) f P (x :: L)) := fun w2 hb => h.below (hg.symm ▸ hb)
  have HSM : Hid (m ≤ 4095) := hm ▸ h.small
  have HPO : Hid (∀ (w5 w1 w2 : World), Fi w5 p (.slice (some ⟨b, 0, none⟩) m cap) f P (x :: L) → w5.setCells b (f * 5) Ln.zero.cells = w1 → Below w1.heap.size w1 w2 → ∀ r, (f + 1) % m = r → _) := fun w5 w1 w2 h5 h1 hb r hr => h5.popped hm hn hr h1 hb
  have HEND : Hid (∀ w6 r, Fi w6 p (.slice (some ⟨b, 0, none⟩) m cap) r (P.set f Ln.zero) L → Stay (fiOwn p (.slice (some ⟨b, 0, none⟩) m cap)) w w6 → R (.returned (.tuple #[x.agg, .bool true])) w6) := fun w6 r h1 h2 => by
    rw [← hR]
    exact ⟨rfl, _, _, _, h1, h2, fun k hk => .inl hk⟩
  have HMX : Hid (P.length = m) := hm
  have HN := Lib.hid hn
  rw [hX] at HEND
  have HX := Lib.hid hX
  have hfi : (f : Int) < (m : Int) := by omega
  have hw1 : IntKind.i64.wrap ((f : Int) + 1) = (f : Int) + 1 := by rw [IntKind.wrap_i64]; have := HSM.out; omega
  have hf1 : (0 : Int) ≤ (f : Int) + 1 := by omega
  have hf2 : (f : Int) ≤ (f : Int) + 1 := by omega
  have hf3 : (f : Int) + 1 ≤ (cap : Int) := by omega
  have hf4 : (f : Int) ≤ (cap : Int) := by omega
  have hf5 : ((f : Int) + 1).toNat = f + 1 := by omega
  have hf6 : f + 1 - f = 1 := by omega
  have hf7 : ¬ cap = f := by omega
  have HW2 : Hid (wrap64 (n : Int) = (n : Int)) := by
    have h1 := h.ring.fits
    rw [hm, List.length_cons, hn] at h1
    have h2 := HSM.out
    show _ = _
    unfold wrap64
    omega
  clear h hX hm hn hmc hR
  generalize x.str = x0 at *
  generalize (x.id : Int) = x1 at *
  generalize (x.ver : Int) = x2 at *
  generalize x.line = x3 at *
  generalize x.cl = x4 at *
  go_enter Tryz.func157, Tryz.ntmps157
  go_wp2_with (first
    | ((with_reducible show wpList _ _ _ (⟨some 2, .alloc _, _, _, _, _⟩ :: _) _ _); refine wpList_alloc_var (o := ⟨some 2, _, _, _, _, _⟩) rfl 29 rfl g HG.out _ HZ.out ?_; intro w2 H2 B2)
    | fail)
  refine (HH.out w2 B2.out).mono ?_
  rintro e w3 ⟨rfl, hb3⟩
  have H3 := Lib.hid ((hb3.block g (lt_of_heap H2.out)).trans H2.out)
  have B3 : Hid (Below g w w3) := B2.out.trans (hb3.mono (Nat.le_of_lt (lt_of_heap H2.out)))
  obtain ⟨g3, hg3⟩ : ∃ g3, w3.heap.size = g3 := ⟨_, rfl⟩
  have HG3 := Lib.hid hg3
  have HL3 : Hid (g < g3) := hg3 ▸ lt_of_heap H3.out
  clear hb3 hg3
  go_wp2_with (first
    | ((with_reducible show wpList _ _ _ (⟨some 4, .alloc _, _, _, _, _⟩ :: _) _ _); refine wpList_alloc_var (o := ⟨some 4, _, _, _, _, _⟩) rfl 29 rfl g3 HG3.out _ HZ.out ?_; intro w4 H4 B4)
    | ((with_reducible show wpList _ _ _ (⟨none, .store _ (.tmp 4) _, _, _, _, _⟩ :: _) _ _); refine wpList_store_whole (o := ⟨none, .store 29 (.tmp 4) (.tmp 9), _, _, _, _⟩) rfl _ _ _ rfl rfl g3 #[.string x0, .int .u64 x1, .int .u64 x2, .int .i64 x3, .int .i64 x4] rfl rfl 29 _ H4.out size_link rfl (onesL _ _ _ _ _) ?_; intro w5 H5 B5; have H25 := Lib.hid (((B4.out.trans B5.out).block g HL3.out).trans H3.out))
    | fail)
  have B5w : Hid (Below g w w5) := B3.out.trans ((B4.out.trans B5.out).mono (Nat.le_of_lt HL3.out))
  have HF5 := Lib.hid (HFB.out w5 B5w.out)
  obtain ⟨c0, c1, c2⟩ := HF5.out.cells
  have hro := HF5.out.row
  rw [HMX.out] at hro
  obtain ⟨cur, hcb, _, _, hcs, _⟩ := own_block hro
  have hcl := run_clearL w5.drew 0 b (f * 5) (cap - f) cur hcb (by omega)
  have EC := Lib.hid hcl
  obtain ⟨w6, hw6⟩ : ∃ w6, w5.drew.setCells b (f * 5) Ln.zero.cells = w6 := ⟨_, rfl⟩
  rw [hw6] at EC
  have HW6 := Lib.hid hw6
  clear hw6 hcl hcb hcs hro
  obtain ⟨r, hr⟩ : ∃ r, (f + 1) % m = r := ⟨_, rfl⟩
  have HRR := Lib.hid hr
  obtain ⟨_, _, k3, k4, _, _⟩ := HPO.out w5.drew w6 w6 (HFB.out w5.drew B5w.out.drew) HW6.out (Below.refl _ _) r hr
  have HC := Lib.hid (place_of (w := w6) (i := 1) k3 k4 (by omega) HSM.out (by omega) (by omega))
  rw [hr] at HC
  have c0d : w5.drew.cell? ⟨p, 0, none⟩ = some (.slice (some ⟨b, 0, none⟩) m cap) := c0
  have c1d : w5.drew.cell? ⟨p, 1, none⟩ = some (.int .i64 (f : Nat)) := c1
  clear hr c2
  go_region_held3 (fun w' => w'.cell? ⟨p, 0, none⟩ = some (.slice (some ⟨b, 0, none⟩) m cap) ∧ w'.cell? ⟨p, 1, none⟩ = some (.int .i64 (f : Nat))) (go_keep)
    (first
      | (refine step_clearR rfl (.tmp 25) 104 rfl (by simp [Act.eval]) EC.out ?_))
  go_wp2_with fail
  refine (HC.out).mono ?_
  rintro e w7 ⟨rfl, k, hk⟩
  have hb7 : Below w6.heap.size w6 w7 := by rw [hk]; exact below_drewN (Below.refl _ _) k
  obtain ⟨k1, k2, _, e1, e2, k6⟩ := HPO.out w5.drew w6 w7 (HFB.out w5.drew B5w.out.drew) HW6.out hb7 r HRR.out
  have HK1 := Lib.hid k1
  have HK2 := Lib.hid k2
  have hbb : ∀ j, j ≠ b → j < w5.heap.size → w7.heap[j]? = w5.heap[j]? := fun j hj hjl => by
    have h1 : w6.heap.size = w5.heap.size := by rw [← HW6.out]; exact (setCells_rest b _ _ w5.drew).2.2.2
    rw [hb7.block j (by omega), ← HW6.out]
    exact setCells_other b _ _ w5.drew j hj
  have HBB := Lib.hid hbb
  have f1 := k6 1
  have f2' := k6 2
  have hpp : (w7.setCell ⟨p, 1, none⟩ (.int .i64 (r : Nat))).cell? ⟨p, 2, none⟩ = some (.int .i64 ((n : Int) + 1)) := (World.cell?_setCell_other _ _ _ _ (by simp)).trans e2
  have hg3b : g3 ≠ b := by have := HL3.out; omega
  have hgb : g ≠ b := by omega
  have hg3p : g3 ≠ p := by have := HL3.out; omega
  have hgp : g ≠ p := by omega
  have HA := Lib.hid ((HBB.out g3 hg3b (lt_of_heap H5.out)).trans H5.out)
  have HB := Lib.hid ((HBB.out g hgb (lt_of_heap H25.out)).trans H25.out)
  have HA2 : Hid (((w7.setCell ⟨p, 1, none⟩ (.int .i64 (r : Nat))).setCell ⟨p, 2, none⟩ (.int .i64 (n : Nat))).heap[g3]? = some (.cells #[.string x0, .int .u64 x1, .int .u64 x2, .int .i64 x3, .int .i64 x4] 29 (0, 0))) := by
    show _ = _
    rw [Below.heap_setCell _ _ _ _ hg3p, Below.heap_setCell _ _ _ _ hg3p]
    exact HA.out
  have hB2e : ((w7.setCell ⟨p, 1, none⟩ (.int .i64 (r : Nat))).setCell ⟨p, 2, none⟩ (.int .i64 (n : Nat))).heap[g]? = w7.heap[g]? := by rw [Below.heap_setCell _ _ _ _ hgp, Below.heap_setCell _ _ _ _ hgp]
  have HB2 := Lib.hid (hB2e.trans HB.out)
  clear hB2e
  obtain ⟨q0, q1, q2, q3, q4⟩ := cellsL HA2.out
  have hw2 := HW2.out
  clear k1 k2 k6 hb7 hbb hk e2
  go_wp2_with (first
    | ((with_reducible show wpList _ _ _ (⟨none, .store _ (.tmp 2) _, _, _, _, _⟩ :: _) _ _); refine wpList_store_whole (o := ⟨none, .store 29 (.tmp 2) (.tmp 38), _, _, _, _⟩) rfl _ _ _ rfl rfl g #[.string x0, .int .u64 x1, .int .u64 x2, .int .i64 x3, .int .i64 x4] rfl rfl 29 _ HB2.out size_link rfl (onesL _ _ _ _ _) ?_; intro w9 H9 B9)
    | fail)
  refine bodyPost_ret (results_l2 rfl rfl rfl (HEB.out _ _ H9.out)) rfl ?_
  rw [HX.out]
  have hgl : g ≤ ((w7.setCell ⟨p, 1, none⟩ (.int .i64 (r : Nat))).setCell ⟨p, 2, none⟩ (.int .i64 (n : Nat))).heap.size := Nat.le_of_lt (lt_of_heap HB2.out)
  have h5l : g ≤ w5.heap.size := Nat.le_of_lt (lt_of_heap H25.out)
  refine HEND.out _ r (HK1.out.stay (S := fun k => g ≤ k) ⟨B9.out.os, B9.out.tape, B9.out.output, B9.out.size, fun k hk _ => B9.out.block k (by omega)⟩ ?_) ?_
  · rintro k (rfl | hk)
    · omega
    · have : b = k := Option.some.inj hk
      omega
  · have k2 := HK2.out
    refine ⟨B9.out.os.trans (k2.os.trans B5w.out.os), B9.out.tape.trans (k2.tape.trans B5w.out.tape), B9.out.output.trans (k2.output.trans B5w.out.output), Nat.le_trans B5w.out.size (Nat.le_trans k2.size B9.out.size), fun k hk hl => ?_⟩
    rw [HG.out] at hl
    exact (B9.out.block k hl).trans ((k2.block k hk (by show k < w5.heap.size; omega)).trans (B5w.out.block k hl))

end Go.Proofs.YtlghphccmgmomaaGreat
