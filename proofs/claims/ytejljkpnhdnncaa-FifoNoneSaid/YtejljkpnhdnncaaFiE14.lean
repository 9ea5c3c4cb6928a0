/-
  Proved here: what a push leaves.
  Conditions: at most 2,040 links, 4,095 places.
-/
import Derived.Test.YtejljkpnhdnncaaFiD14
namespace Go.Proofs.Ytejljkpnhdnncaa
open Go Go.RowKit
set_option maxRecDepth 100000

set_option maxHeartbeats 3200000 in
set_option maxRecDepth 100000 in
theorem rpush_any {w : World} {p f : Nat} {v : Value} {P L : List Ln} (h : Fi w p v f P L) (hl : L.length ≤ 2040) (x : Ln) :
    Calls Try.prog 18 #[.pointer (some ⟨p, 0, none⟩), .agg #[.string x.str, .int .u64 (x.id : Nat), .int .u64 (x.ver : Nat), .int .i64 x.line, .int .i64 x.cl]] w fun e w' => e = .returned (.tuple #[]) ∧ FiTo w p v (L ++ [x]) w' := by
  obtain ⟨R, hR⟩ : ∃ R : Ending → World → Prop, (fun e w' => e = .returned (.tuple #[]) ∧ FiTo w p v (L ++ [x]) w') = R := ⟨_, rfl⟩
  rw [hR]
  obtain ⟨g, hg⟩ : ∃ g, w.heap.size = g := ⟨_, rfl⟩
  obtain ⟨n, hn⟩ : ∃ n, L.length = n := ⟨_, rfl⟩
  obtain ⟨m, hm⟩ : ∃ m, P.length = m := ⟨_, rfl⟩
  have hfit := h.ring.fits
  rw [hn, hm] at hfit
  rw [hn] at hl
  obtain ⟨v0, hv0⟩ : ∃ v0, w.alloc (.cells #[.string x.str, .int .u64 (x.id : Nat), .int .u64 (x.ver : Nat), .int .i64 x.line, .int .i64 x.cl] 29) = v0 := ⟨_, rfl⟩
  have hb0 : Below g w v0 := by rw [← hv0, ← hg]; exact (Below.refl _ _).alloc (Nat.le_refl _) _
  have hx0 : v0.heap[g]? = some (.cells #[.string x.str, .int .u64 (x.id : Nat), .int .u64 (x.ver : Nat), .int .i64 x.line, .int .i64 x.cl] 29 (0, 0)) := by rw [← hv0, ← hg]; exact heap_alloc_new w _
  have hf0 : Fi v0 p v f P L := h.below (hg.symm ▸ hb0)
  have hng : ¬ fiOwn p v g := fun e => by have := h.lt e; omega
  have HEND : Hid (∀ w2 (v2 : Value) (f2 : Nat) (P2 : List Ln) b m2 cap r, Fi w2 p v2 f2 P2 L → v2 = .slice (some ⟨b, 0, none⟩) m2 cap → P2.length = m2 → n < m2 → (f2 + n) % m2 = r → Stay (fiOwn p v) w w2 → (∀ k, fiOwn p v2 k → fiOwn p v k ∨ g ≤ k) →
      R (.returned (.tuple #[])) ((((((w2.setCell ⟨b, r * 5, none⟩ (.string x.str)).setCell ⟨b, r * 5 + 1, none⟩ (.int .u64 (x.id : Nat))).setCell ⟨b, r * 5 + 2, none⟩ (.int .u64 (x.ver : Nat))).setCell ⟨b, r * 5 + 3, none⟩ (.int .i64 x.line)).setCell ⟨b, r * 5 + 4, none⟩ (.int .i64 x.cl)).setCell ⟨p, 2, none⟩ (.int .i64 ((n : Int) + 1)))) := fun w2 v2 f2 P2 b m2 cap r h1 h2 h3 h4 h5 h6 h7 => by
    subst h2
    rw [← hR]
    obtain ⟨k1, k2⟩ := h1.pushed h3 (by omega) x hn h5
    exact ⟨rfl, _, _, _, k1, h6.new k2 (fun k hk => by rw [hg]; exact h7 k hk), by rw [hg]; exact h7⟩
  have HGR : Hid (n = m → ∀ k, Calls Try.prog 21 #[.pointer (some ⟨p, 0, none⟩)] (v0.drewN k) fun e w' => e = .returned (.tuple #[]) ∧ GrowTo (v0.drewN k) p v m L w') := fun e k => by
    have := rgrow_any (hf0.drewN k) (by omega) (by omega)
    rwa [hm] at this
  have HW1 : Hid (IntKind.i64.wrap ((n : Int) + 1) = (n : Int) + 1) := by show _ = _; rw [IntKind.wrap_i64]; omega
  obtain ⟨A, cap, hv, _, _⟩ := h.reads
  rw [hm] at hv
  obtain ⟨c0, c1, c2⟩ := hf0.cells
  rw [hn] at c2
  rw [hv] at c0
  have HF0 := Lib.hid hf0
  have HX0 := Lib.hid hx0
  have HNG := Lib.hid hng
  have HS0 : Hid (Stay (fiOwn p v) w v0) := Stay.of_below (hg.symm ▸ hb0)
  have HSM := Lib.hid h.small
  have HG0 : Hid (g < v0.heap.size) := lt_of_heap hx0
  have HVL : Hid (∀ k, fiOwn p v k → k < g) := fun k hk => hg ▸ h.lt hk
  have HN := Lib.hid hn
  have HMM := Lib.hid hm
  have HV := Lib.hid hv
  clear h hR hf0 hx0 hng hb0 hv hn hm
  generalize x.str = x0 at *
  generalize (x.id : Int) = x1 at *
  generalize (x.ver : Int) = x2 at *
  generalize x.line = x3 at *
  generalize x.cl = x4 at *
  go_enter Try.func18, Try.ntmps18
  by_cases hnm : n = m
  · have hnn : ((n : Int) == (m : Int)) = true := by simp [hnm]
    have HGR2 := Lib.hid (HGR.out hnm)
    have HNM : Hid (n = m) := hnm
    clear HGR
    go_wp2
    go_quiet (fail)
    go_wp2_with fail
    refine (HGR2.out _).mono ?_
    rintro e w2 ⟨rfl, v2, hf2, hst2, how2⟩
    obtain ⟨f2, hzero⟩ : ∃ f2, 0 = f2 := ⟨_, rfl⟩
    obtain ⟨P2, hP2⟩ : ∃ P2, L ++ List.replicate (m + 1) Ln.zero = P2 := ⟨_, rfl⟩
    obtain ⟨m2, hm2⟩ : ∃ m2, P2.length = m2 := ⟨_, rfl⟩
    have HM2 := Lib.hid hm2
    have HR2 : Hid (n < m2) := by show _ < _; rw [← hm2, ← hP2]; simp [HN.out]
    rw [hP2, hzero] at hf2
    have HF2 := Lib.hid hf2
    have HST2 : Hid (Stay (fiOwn p v) w w2) := (HS0.out.drewN nq).trans hst2
    have HOW2 : Hid (∀ k, fiOwn p v2 k → fiOwn p v k ∨ g ≤ k) := fun k hk => (how2 k hk).imp id (fun h => Nat.le_trans (Nat.le_of_lt HG0.out) h)
    have HX2 := Lib.hid ((hst2.block g HNG.out HG0.out).trans HX0.out)
    have HNG2 : Hid (¬ fiOwn p v2 g) := fun e => by
      rcases how2 g e with e | e
      · exact HNG.out e
      · have h1 : v0.heap.size ≤ g := e
        have := HG0.out
        omega
    clear hf2 hst2 how2 hzero hP2 hm2 hnm hnn c0 c1 c2

    obtain ⟨b, cap2, hv2⟩ := own_where HF2.out.row (by have := HM2.out; have := HR2.out; omega)
    rw [HM2.out] at hv2
    subst hv2
    obtain ⟨d0, d1, d2⟩ := HF2.out.cells
    rw [HN.out] at d2
    obtain ⟨q0, q1, q2, q3, q4⟩ := cellsL HX2.out
    have hm0 : 0 < m2 := by have := HR2.out; omega
    have hf2 := HF2.out.ring.first_lt (by have := HM2.out; omega)
    rw [HM2.out] at hf2
    have HSM2 : Hid (m2 ≤ 4095) := HM2.out ▸ HF2.out.small
    have HC := Lib.hid (place_of (w := w2.drew) (i := n) d0 d1 hm0 HSM2.out hf2 (by have := HR2.out; omega))
    obtain ⟨r, hr⟩ : ∃ r, (f2 + n) % m2 = r := ⟨_, rfl⟩
    have hrm : r < m2 := by rw [← hr]; exact Nat.mod_lt _ hm0
    have hrmi : (r : Int) < (m2 : Int) := by omega
    rw [hr] at HC
    have HRR := Lib.hid hr
    have d0d : w2.drew.cell? ⟨p, 0, none⟩ = some (.slice (some ⟨b, 0, none⟩) m2 cap2) := d0
    have d2d : w2.drew.cell? ⟨p, 2, none⟩ = some (.int .i64 (n : Nat)) := d2
    have q0d : w2.drew.cell? ⟨g, 0, none⟩ = some (.string x0) := q0
    have q1d : w2.drew.cell? ⟨g, 1, none⟩ = some (.int .u64 x1) := q1
    have q2d : w2.drew.cell? ⟨g, 2, none⟩ = some (.int .u64 x2) := q2
    have q3d : w2.drew.cell? ⟨g, 3, none⟩ = some (.int .i64 x3) := q3
    have q4d : w2.drew.cell? ⟨g, 4, none⟩ = some (.int .i64 x4) := q4
    have hbp : b ≠ p := fun e => HF2.out.self (by rw [e]; rfl)
    have hbg : b ≠ g := fun e => HNG2.out (.inr (by rw [e]; rfl))
    have hpw : p < w2.heap.size := HF2.out.lt (.inl rfl)
    have hgw : g < w2.heap.size := lt_of_heap HX2.out
    have HRL : Hid (r < P2.length) := by have := HM2.out; show _ < _; omega
    clear hr hf2
    go_wp2
    go_region_held3 (fun w' => w'.cell? ⟨p, 0, none⟩ = some (.slice (some ⟨b, 0, none⟩) m2 cap2) ∧ w'.cell? ⟨p, 2, none⟩ = some (.int .i64 (n : Nat)) ∧ w'.cell? ⟨g, 0, none⟩ = some (.string x0) ∧ w'.cell? ⟨g, 1, none⟩ = some (.int .u64 x1) ∧ w'.cell? ⟨g, 2, none⟩ = some (.int .u64 x2) ∧ w'.cell? ⟨g, 3, none⟩ = some (.int .i64 x3) ∧ w'.cell? ⟨g, 4, none⟩ = some (.int .i64 x4)) (go_keep)
      (first
        | (go_at_call 20; refine HC.out.mono ?_; rintro e w3 ⟨rfl, k, hk⟩; have hb3 : Below w2.heap.size w2 w3 := (by rw [hk]; exact below_drewN ((Below.refl _ _).drew) k); clear hk; have e0 := (hb3.cell (p := ⟨p, 0, none⟩) hpw).trans d0; have e2 := (hb3.cell (p := ⟨p, 2, none⟩) hpw).trans d2; have s0 := (hb3.cell (p := ⟨g, 0, none⟩) hgw).trans q0; have s1 := (hb3.cell (p := ⟨g, 1, none⟩) hgw).trans q1; have s2 := (hb3.cell (p := ⟨g, 2, none⟩) hgw).trans q2; have s3 := (hb3.cell (p := ⟨g, 3, none⟩) hgw).trans q3; have s4 := (hb3.cell (p := ⟨g, 4, none⟩) hgw).trans q4; have hf3 := HF2.out.below hb3; have hro3 := hf3.row; rw [HM2.out] at hro3; obtain ⟨⟨u0, t0⟩, ⟨u1, t1⟩, ⟨u2, t2⟩, ⟨u3, t3⟩, ⟨u4, t4⟩, hfr⟩ := own_five hro3 HRL.out; have f0 := hfr (r * 5); have f1 := hfr (r * 5 + 1); have f2' := hfr (r * 5 + 2); have f3 := hfr (r * 5 + 3); have f4 := hfr (r * 5 + 4); have HF3 := Lib.hid hf3; have HST3 := Lib.hid (HST2.out.trans (Stay.of_below hb3)); clear hf3 hro3 hfr hb3))
    have e6 := (cell_set5 (w := w3) hbp (r * 5) 2 (.string x0) (.int .u64 x1) (.int .u64 x2) (.int .i64 x3) (.int .i64 x4)).trans e2
    have f6 := (frozen_set5 (w := w3) (b := b) (p := p) (r * 5) 2 (.string x0) (.int .u64 x1) (.int .u64 x2) (.int .i64 x3) (.int .i64 x4)).trans (HF3.out.frozen 2)
    have hw1 := HW1.out
    go_wp2
    refine bodyPost_end (results_none rfl _ _ _) rfl ?_
    exact HEND.out _ _ _ _ _ _ _ _ HF3.out rfl HM2.out HR2.out HRR.out HST3.out HOW2.out
  · have hnn : ((n : Int) == (m : Int)) = false := by simp; omega
    have HR2 : Hid (n < m) := by show _ < _; omega
    clear HGR
    go_wp2
    go_quiet (fail)
    obtain ⟨w2, hw2⟩ : ∃ w2, v0.drewN nq = w2 := ⟨_, rfl⟩
    rw [hw2]
    have HF2 : Hid (Fi w2 p v f P L) := hw2 ▸ HF0.out.drewN nq
    have HST2 : Hid (Stay (fiOwn p v) w w2) := hw2 ▸ HS0.out.drewN nq
    have HOW2 : Hid (∀ k, fiOwn p v k → fiOwn p v k ∨ g ≤ k) := fun k hk => .inl hk
    have HX2 : Hid (w2.heap[g]? = some (.cells #[.string x0, .int .u64 x1, .int .u64 x2, .int .i64 x3, .int .i64 x4] 29 (0, 0))) := hw2 ▸ HX0.out
    have HNG2 := HNG
    have HM2 := HMM
    obtain ⟨f2, hf⟩ : ∃ f2, f = f2 := ⟨_, rfl⟩
    obtain ⟨P2, hP2⟩ : ∃ P2, P = P2 := ⟨_, rfl⟩
    obtain ⟨m2, hm2⟩ : ∃ m2, m = m2 := ⟨_, rfl⟩
    subst hf hP2 hm2
    clear hw2 hnm hnn c0 c1 c2

    obtain ⟨b, cap2, hv2⟩ := own_where HF2.out.row (by have := HM2.out; have := HR2.out; omega)
    rw [HM2.out] at hv2
    subst hv2
    obtain ⟨d0, d1, d2⟩ := HF2.out.cells
    rw [HN.out] at d2
    obtain ⟨q0, q1, q2, q3, q4⟩ := cellsL HX2.out
    have hm0 : 0 < m := by have := HR2.out; omega
    have hf := HF2.out.ring.first_lt (by have := HM2.out; omega)
    rw [HM2.out] at hf
    have HSM2 : Hid (m ≤ 4095) := HM2.out ▸ HF2.out.small
    have HC := Lib.hid (place_of (w := w2.drew) (i := n) d0 d1 hm0 HSM2.out hf (by have := HR2.out; omega))
    obtain ⟨r, hr⟩ : ∃ r, (f + n) % m = r := ⟨_, rfl⟩
    have hrm : r < m := by rw [← hr]; exact Nat.mod_lt _ hm0
    have hrmi : (r : Int) < (m : Int) := by omega
    rw [hr] at HC
    have HRR := Lib.hid hr
    have d0d : w2.drew.cell? ⟨p, 0, none⟩ = some (.slice (some ⟨b, 0, none⟩) m cap2) := d0
    have d2d : w2.drew.cell? ⟨p, 2, none⟩ = some (.int .i64 (n : Nat)) := d2
    have q0d : w2.drew.cell? ⟨g, 0, none⟩ = some (.string x0) := q0
    have q1d : w2.drew.cell? ⟨g, 1, none⟩ = some (.int .u64 x1) := q1
    have q2d : w2.drew.cell? ⟨g, 2, none⟩ = some (.int .u64 x2) := q2
    have q3d : w2.drew.cell? ⟨g, 3, none⟩ = some (.int .i64 x3) := q3
    have q4d : w2.drew.cell? ⟨g, 4, none⟩ = some (.int .i64 x4) := q4
    have hbp : b ≠ p := fun e => HF2.out.self (by rw [e]; rfl)
    have hbg : b ≠ g := fun e => HNG2.out (.inr (by rw [e]; rfl))
    have hpw : p < w2.heap.size := HF2.out.lt (.inl rfl)
    have hgw : g < w2.heap.size := lt_of_heap HX2.out
    have HRL : Hid (r < P.length) := by have := HM2.out; show _ < _; omega
    clear hr hf
    go_wp2
    go_region_held3 (fun w' => w'.cell? ⟨p, 0, none⟩ = some (.slice (some ⟨b, 0, none⟩) m cap2) ∧ w'.cell? ⟨p, 2, none⟩ = some (.int .i64 (n : Nat)) ∧ w'.cell? ⟨g, 0, none⟩ = some (.string x0) ∧ w'.cell? ⟨g, 1, none⟩ = some (.int .u64 x1) ∧ w'.cell? ⟨g, 2, none⟩ = some (.int .u64 x2) ∧ w'.cell? ⟨g, 3, none⟩ = some (.int .i64 x3) ∧ w'.cell? ⟨g, 4, none⟩ = some (.int .i64 x4)) (go_keep)
      (first
        | (go_at_call 20; refine HC.out.mono ?_; rintro e w3 ⟨rfl, k, hk⟩; have hb3 : Below w2.heap.size w2 w3 := (by rw [hk]; exact below_drewN ((Below.refl _ _).drew) k); clear hk; have e0 := (hb3.cell (p := ⟨p, 0, none⟩) hpw).trans d0; have e2 := (hb3.cell (p := ⟨p, 2, none⟩) hpw).trans d2; have s0 := (hb3.cell (p := ⟨g, 0, none⟩) hgw).trans q0; have s1 := (hb3.cell (p := ⟨g, 1, none⟩) hgw).trans q1; have s2 := (hb3.cell (p := ⟨g, 2, none⟩) hgw).trans q2; have s3 := (hb3.cell (p := ⟨g, 3, none⟩) hgw).trans q3; have s4 := (hb3.cell (p := ⟨g, 4, none⟩) hgw).trans q4; have hf3 := HF2.out.below hb3; have hro3 := hf3.row; rw [HM2.out] at hro3; obtain ⟨⟨u0, t0⟩, ⟨u1, t1⟩, ⟨u2, t2⟩, ⟨u3, t3⟩, ⟨u4, t4⟩, hfr⟩ := own_five hro3 HRL.out; have f0 := hfr (r * 5); have f1 := hfr (r * 5 + 1); have f' := hfr (r * 5 + 2); have f3 := hfr (r * 5 + 3); have f4 := hfr (r * 5 + 4); have HF3 := Lib.hid hf3; have HST3 := Lib.hid (HST2.out.trans (Stay.of_below hb3)); clear hf3 hro3 hfr hb3))
    have e6 := (cell_set5 (w := w3) hbp (r * 5) 2 (.string x0) (.int .u64 x1) (.int .u64 x2) (.int .i64 x3) (.int .i64 x4)).trans e2
    have f6 := (frozen_set5 (w := w3) (b := b) (p := p) (r * 5) 2 (.string x0) (.int .u64 x1) (.int .u64 x2) (.int .i64 x3) (.int .i64 x4)).trans (HF3.out.frozen 2)
    have hw1 := HW1.out
    go_wp2
    refine bodyPost_end (results_none rfl _ _ _) rfl ?_
    exact HEND.out _ _ _ _ _ _ _ _ HF3.out rfl HM2.out HR2.out HRR.out HST3.out HOW2.out

end Go.Proofs.Ytejljkpnhdnncaa
