/-
  Proved here: the statements' own done answers true of a device of the program's and one of the chapter's whose lines are alike, and leaves both so, whatever the act is.
  Conditions: devices of at most 258 lines; acts of at most 100 bytes and numbers.
-/
import Derived.Test.YtgfbehdnmdmnhaaAlike3
namespace Go.Proofs.Ytgfbehdnmdmnhaa
open Go Go.RowKit

theorem Blk.turns {w w' : World} {g p q : Nat} {cs : List Value} (h : Blk w g cs) (ht : Turns p q w w') (h1 : g ≠ p) (h2 : g ≠ q) : Blk w' g cs := (ht.block g h1 h2 h.lt).trans h
theorem BlkI.turns {w w' : World} {g p q : Nat} {cs : List Value} (h : BlkI w g cs) (ht : Turns p q w w') (h1 : g ≠ p) (h2 : g ≠ q) : BlkI w' g cs := (ht.block g h1 h2 h.lt).trans h
theorem BlkI.below {w w' : World} {g B : Nat} {cs : List Value} (h : BlkI w g cs) (hb : Below B w w') (hg : g < B) : BlkI w' g cs := (hb.block g hg).trans h
/-- Block g is the boxed act x. -/
def Boxed (w : World) (g : Nat) (x : ActV) : Prop := w.heap[g]? = some (.cells x.cells.toArray 36 (0, 0))
theorem Boxed.lt {w : World} {g : Nat} {x : ActV} (h : Boxed w g x) : g < w.heap.size := lt_of_heap h
theorem Boxed.cell {w : World} {g : Nat} {x : ActV} (h : Boxed w g x) (j : Nat) : w.cell? ⟨g, j, none⟩ = x.cells[j]? := by
  unfold Boxed at h
  simp [World.cell?, h]
theorem Boxed.below {w w' : World} {g : Nat} {x : ActV} (h : Boxed w g x) (hb : Below w.heap.size w w') : Boxed w' g x := (hb.block g h.lt).trans h
theorem Boxed.turns {w w' : World} {g p q : Nat} {x : ActV} (h : Boxed w g x) (ht : Turns p q w w') (h1 : g ≠ p) (h2 : g ≠ q) : Boxed w' g x := (ht.block g h1 h2 h.lt).trans h
/-- What done leaves. -/
def DoneP (w0 : World) (p q p' q' : Nat) (s r : St) (e : Ending) (w' : World) : Prop := e = .returned (.bool true) ∧ DvS w' p q s ∧ DvT w' p' q' r ∧ Below w0.heap.size w0 w'
set_option maxHeartbeats 3200000 in
set_option maxRecDepth 100000 in
theorem done_any {w0 w : World} {p q p' q' : Nat} {s r : St} (h : DvS w p q s) (h' : DvT w p' q' r) (hs : Sim s r) (x : ActV) (hok : x.ok w0) (hn : x.n ≤ 100) (hm : x.m ≤ 100) (hb : Below w0.heap.size w0 w) (hp : w0.heap.size ≤ p) (hq : w0.heap.size ≤ q) (hp' : w0.heap.size ≤ p') (hq' : w0.heap.size ≤ q') (hap : p ≠ p' ∧ p ≠ q' ∧ q ≠ p' ∧ q ≠ q') :
    Calls Try.prog 16 #[.pointer (some ⟨p, 0, none⟩), .pointer (some ⟨p', 0, none⟩), .agg x.cells.toArray] w (DoneP w0 p q p' q' (s.play x) (r.rplay x)) := by
  have HX : Hid (w.alloc (.cells x.cells.toArray 36) = w.alloc (.cells x.cells.toArray 36)) := rfl
  have hbox : Boxed (w.alloc (.cells x.cells.toArray 36)) w.heap.size x := heap_alloc_new w _
  obtain ⟨gx, hgx⟩ : ∃ g, w.heap.size = g := ⟨_, rfl⟩
  obtain ⟨W, hW⟩ : ∃ W, w.alloc (.cells x.cells.toArray 36) = W := ⟨_, rfl⟩
  have hba : Below w.heap.size w W := hW ▸ (Below.refl _ _).alloc (Nat.le_refl _) _
  rw [hW, hgx] at hbox
  have HBX := Lib.hid hbox
  have HGX := Lib.hid hgx
  have hne : 0 < x.keep.length → ∀ y, x.K = some y → y.block ≠ p' ∧ y.block ≠ q' := by
    intro hl y hy
    obtain ⟨bb, o, e, hlt, _⟩ := (hok.rowK hm).2.2 hl
    rw [e] at hy
    cases hy
    constructor <;> show bb ≠ _ <;> omega
  have hne2 : 0 < x.b.length → ∀ y, x.A = some y → y.block ≠ p' ∧ y.block ≠ q' := by
    intro hl y hy
    obtain ⟨bb, o, e, hlt, _⟩ := (hok.row hn).2.2 hl
    rw [e] at hy
    cases hy
    constructor <;> show bb ≠ _ <;> omega
  have hb0 : Below w0.heap.size w0 W := hb.trans (hba.mono hb.size)
  have HD := Lib.hid (h.below hba)
  have HE := Lib.hid (h'.below hba)
  have HB0 := Lib.hid hb0
  have HROW := Lib.hid ((hok.row hn).2.below hb0)
  have HROW0 := Lib.hid (hok.row hn).2
  have HROWK := Lib.hid ((hok.rowK hm).2.below hb0)
  have HROWK0 := Lib.hid (hok.rowK hm).2
  have HBL := Lib.hid (hok.row hn).1
  have HKL := Lib.hid (hok.rowK hm).1
  have HA0 := Lib.hid hok.a0
  have HK0 := Lib.hid hok.k0
  have HNE := Lib.hid hne
  have HNE2 := Lib.hid hne2
  have HS := Lib.hid hs
  have HAP := Lib.hid hap
  have HLT : Hid (p < gx ∧ q < gx ∧ p' < gx ∧ q' < gx) := ⟨hgx ▸ h.lt_p, hgx ▸ h.lt_q, hgx ▸ h'.lt_p, hgx ▸ h'.lt_q⟩
  have HP : Hid (w0.heap.size ≤ p ∧ w0.heap.size ≤ q ∧ w0.heap.size ≤ p' ∧ w0.heap.size ≤ q') := ⟨hp, hq, hp', hq'⟩
  have HGW : Hid (gx < W.heap.size) := hbox.lt
  obtain ⟨kd, line, off, A, n, c, b, K, m, d, keep⟩ := x
  simp only [ActV.cells] at *
  have HW := Lib.hid hW
  have hn1 : n ≤ 100 := hn
  have hm1 : m ≤ 100 := hm
  clear HX h h' hs hok hb hp hq hp' hq' hap hbox hgx hba hne hne2 hb0 hW hn hm
  rcases Classical.em (kd = 0) with rfl | h0
  · have HFIN : Hid (∀ w', DvS w' p q (s.store line off b) → DvT w' p' q' (r.store line off b) → Below w0.heap.size w0 w' → DoneP w0 p q p' q' (St.play s ⟨0, line, off, A, n, c, b, K, m, d, keep⟩) (St.rplay r ⟨0, line, off, A, n, c, b, K, m, d, keep⟩) (.returned (.bool true)) w') := fun w' h1 h2 h3 => ⟨rfl, by rw [St.play, if_pos rfl]; exact h1, by rw [St.rplay, if_pos rfl]; exact h2, h3⟩
    generalize DoneP w0 p q p' q' _ _ = R at *
    go_enter Try.func16, Try.ntmps16
    go_wp2_with fail
    rw [HW.out, HGX.out]
    refine (lend_any W A n c b HBL.out HROW.out HA0.out).mono ?_
    rintro e w1 ⟨g, rfl, hg, hlent, hb1⟩
    have HL1 := Lib.hid hlent
    have HG1 := Lib.hid hg
    have X1 := Lib.hid (HBX.out.below hb1)
    have D1 := Lib.hid (HD.out.below hb1)
    have E1 := Lib.hid (HE.out.below hb1)
    have B1 := Lib.hid (HB0.out.trans (hb1.mono HB0.out.size))
    have R1 := Lib.hid (HROW.out.below hb1)
    have c1 := X1.out.cell 1
    have c2 := X1.out.cell 2
    simp only [ActV.cells, List.getElem?_cons_zero, List.getElem?_cons_succ] at c1 c2
    clear hlent hb1 hg
    go_wp2_with fail
    refine (store_any D1.out line off (some ⟨g, 0, none⟩) n (n + 5) b HBL.out (HL1.out.row (by have := HBL.out; omega)) (by intro h; cases h)).mono ?_
    rintro e w2 ⟨rfl, hd, ht⟩
    obtain ⟨l1, l2, l3, l4⟩ := HLT.out
    obtain ⟨n1, n2, n3, n4⟩ := HAP.out
    obtain ⟨m1, m2, m3, m4⟩ := HP.out
    have hgw := HGW.out
    have hg1 := HG1.out
    have D2 := Lib.hid hd
    have E2 : Hid (DvT w2 p' q' r) := E1.out.turns ht (Ne.symm n1) (Ne.symm n3) (Ne.symm n2) (Ne.symm n4)
    have X2 := Lib.hid (X1.out.turns ht (by omega) (by omega))
    have L2 : Hid (Lent w2 g b) := Blk.turns HL1.out ht (by omega) (by omega)
    have B2 : Hid (Below w0.heap.size w0 w2) := B1.out.trans (ht.below m1 m2 B1.out.size)
    have k1 := X2.out.cell 1
    have k2 := X2.out.cell 2
    have k3 := X2.out.cell 3
    simp only [ActV.cells, List.getElem?_cons_zero, List.getElem?_cons_succ] at k1 k2 k3
    obtain ⟨E, hE⟩ : ∃ E, err (has s.1 line && fitsAt off n) = E := ⟨_, rfl⟩
    have HEE : Hid (err (has r.1 line && fitsAt off n) = E) := by show _ = _; rw [← HS.out.has]; exact hE
    have hee : (E == E) = true := by simp
    rw [hE]
    clear hd ht c1 c2 hE l1 l2 l3 l4 n1 n2 n3 n4 m1 m2 m3 m4 hgw hg1
    go_wp2_with fail
    go_region_held3 (fun w' => w'.cell? ⟨gx, 1, none⟩ = some (.int .i64 line) ∧ w'.cell? ⟨gx, 2, none⟩ = some (.int .i64 off) ∧ w'.cell? ⟨gx, 3, none⟩ = some (.slice A n c)) (go_keep)
      (first
        | (go_at_call 14; refine (num_any E _).mono ?_; rintro e w' ⟨rfl, rfl⟩)
        | (go_at_call 38; refine (rstore_any E2.out.drew line off A n c b HBL.out (row_drew (HROW0.out.below B2.out)) HNE2.out).mono ?_; rintro e w3 ⟨rfl, hd, ht0⟩; have ht := (Turns.refl p' q' w2).drew.trans ht0; obtain ⟨l1, l2, l3, l4⟩ := HLT.out; obtain ⟨n1, n2, n3, n4⟩ := HAP.out; obtain ⟨m1, m2, m3, m4⟩ := HP.out; have hgw := HGW.out; have hg1 := HG1.out; have E3 := Lib.hid hd; have D3 : Hid (DvS w3 p q (s.store line off b)) := D2.out.turns ht n1 n2 n3 n4; have X3 := Lib.hid (X2.out.turns ht (by omega) (by omega)); have L3 : Hid (Lent w3 g b) := Blk.turns L2.out ht (by omega) (by omega); have B3 : Hid (Below w0.heap.size w0 w3) := B2.out.trans (ht.below m3 m4 B2.out.size); have j1 := X3.out.cell 1; have j2 := X3.out.cell 2; have j3 := X3.out.cell 3; simp only [ActV.cells, List.getElem?_cons_zero, List.getElem?_cons_succ] at j1 j2 j3; rw [HEE.out]; clear hd ht ht0 l1 l2 l3 l4 n1 n2 n3 n4 m1 m2 m3 m4 hgw hg1)
        | (go_at_call 39; refine (kept_any w3 g A n c b HBL.out (by omega) L3.out (HROW0.out.below B3.out)).mono ?_; rintro e w' ⟨rfl, rfl⟩))
    go_wp2
    exact HFIN.out _ D3.out E3.out B3.out
  rcases Classical.em (kd = 1) with rfl | h1
  · have HFIN : Hid (∀ w', DvS w' p q (s.flush line) → DvT w' p' q' (r.flush line) → Below w0.heap.size w0 w' → DoneP w0 p q p' q' (St.play s ⟨1, line, off, A, n, c, b, K, m, d, keep⟩) (St.rplay r ⟨1, line, off, A, n, c, b, K, m, d, keep⟩) (.returned (.bool true)) w') := fun w' h1 h2 h3 => ⟨rfl, by rw [St.play, if_neg (by simp), if_pos rfl]; exact h1, by rw [St.rplay, if_neg (by simp), if_pos rfl]; exact h2, h3⟩
    generalize DoneP w0 p q p' q' _ _ = R at *
    go_enter Try.func16, Try.ntmps16
    obtain ⟨E, hE⟩ : ∃ E, err (has s.1 line) = E := ⟨_, rfl⟩
    have HE1 := Lib.hid hE
    have HEE : Hid (err (has r.1 line) = E) := by show _ = _; rw [← HS.out.has]; exact hE
    have hee : (E == E) = true := by simp
    have k1 := HBX.out.cell 1
    simp only [ActV.cells, List.getElem?_cons_zero, List.getElem?_cons_succ] at k1
    clear hE
    go_wp2_with fail
    rw [HW.out, HGX.out]
    go_region_held3 (fun w' => w'.cell? ⟨gx, 1, none⟩ = some (.int .i64 line)) (go_keep)
      (first
        | (go_at_call 20; refine (flush_any HD.out.drew line).mono ?_; rintro e w2 ⟨rfl, hd, ht0⟩; have ht := (Turns.refl p q W).drew.trans ht0; obtain ⟨l1, l2, l3, l4⟩ := HLT.out; obtain ⟨n1, n2, n3, n4⟩ := HAP.out; obtain ⟨m1, m2, m3, m4⟩ := HP.out; have D2 := Lib.hid hd; have E2 : Hid (DvT w2 p' q' r) := HE.out.turns ht (Ne.symm n1) (Ne.symm n3) (Ne.symm n2) (Ne.symm n4); have X2 := Lib.hid (HBX.out.turns ht (by omega) (by omega)); have B2 : Hid (Below w0.heap.size w0 w2) := HB0.out.trans (ht.below m1 m2 HB0.out.size); have j1 := X2.out.cell 1; simp only [ActV.cells, List.getElem?_cons_zero, List.getElem?_cons_succ] at j1; rw [HE1.out]; clear hd ht ht0 l1 l2 l3 l4 n1 n2 n3 n4 m1 m2 m3 m4)
        | (go_at_call 14; refine (num_any E _).mono ?_; rintro e w' ⟨rfl, rfl⟩)
        | (go_at_call 40; refine (rflush_any E2.out line).mono ?_; rintro e w3 ⟨rfl, hd, ht⟩; obtain ⟨l1, l2, l3, l4⟩ := HLT.out; obtain ⟨n1, n2, n3, n4⟩ := HAP.out; obtain ⟨m1, m2, m3, m4⟩ := HP.out; have E3 := Lib.hid hd; have D3 : Hid (DvS w3 p q (s.flush line)) := D2.out.turns ht n1 n2 n3 n4; have X3 := Lib.hid (X2.out.turns ht (by omega) (by omega)); have B3 : Hid (Below w0.heap.size w0 w3) := B2.out.trans (ht.below m3 m4 B2.out.size); have i1 := X3.out.cell 1; simp only [ActV.cells, List.getElem?_cons_zero, List.getElem?_cons_succ] at i1; rw [HEE.out]; clear hd ht l1 l2 l3 l4 n1 n2 n3 n4 m1 m2 m3 m4))
    go_wp2
    exact HFIN.out _ D3.out E3.out B3.out
  rcases Classical.em (kd = 2) with rfl | h2
  · have HFIN : Hid (∀ w', DvS w' p q (s.fence) → DvT w' p' q' (r.rfence) → Below w0.heap.size w0 w' → DoneP w0 p q p' q' (St.play s ⟨2, line, off, A, n, c, b, K, m, d, keep⟩) (St.rplay r ⟨2, line, off, A, n, c, b, K, m, d, keep⟩) (.returned (.bool true)) w') := fun w' h1 h2 h3 => ⟨rfl, by rw [St.play, if_neg (by simp), if_neg (by simp), if_pos rfl]; exact h1, by rw [St.rplay, if_neg (by simp), if_neg (by simp), if_pos rfl]; exact h2, h3⟩
    generalize DoneP w0 p q p' q' _ _ = R at *
    go_enter Try.func16, Try.ntmps16
    go_wp2_with fail
    rw [HW.out]
    refine (rfence_ok HE.out).mono ?_
    rintro e w2 ⟨rfl, hd, ht⟩
    obtain ⟨n1, n2, n3, n4⟩ := HAP.out
    obtain ⟨m1, m2, m3, m4⟩ := HP.out
    have E2 := Lib.hid hd
    have D2 : Hid (DvS w2 p q s) := HD.out.turns ht n1 n2 n3 n4
    have B2 : Hid (Below w0.heap.size w0 w2) := HB0.out.trans (ht.below m3 m4 HB0.out.size)
    clear hd ht n1 n2 n3 n4 m1 m2 m3 m4
    go_wp2_with fail
    refine (fence_any D2.out).mono ?_
    rintro e w3 ⟨rfl, hd, ht⟩
    obtain ⟨n1, n2, n3, n4⟩ := HAP.out
    obtain ⟨m1, m2, m3, m4⟩ := HP.out
    have D3 := Lib.hid hd
    have E3 : Hid (DvT w3 p' q' r.rfence) := E2.out.turns ht (Ne.symm n1) (Ne.symm n3) (Ne.symm n2) (Ne.symm n4)
    have B3 : Hid (Below w0.heap.size w0 w3) := B2.out.trans (ht.below m1 m2 B2.out.size)
    clear hd ht n1 n2 n3 n4 m1 m2 m3 m4
    go_wp2
    exact HFIN.out _ D3.out E3.out B3.out
  rcases Classical.em (kd = 3) with rfl | h3
  · have HFIN : Hid (∀ w', DvS w' p q (s.back line) → DvT w' p' q' (r.rback line) → Below w0.heap.size w0 w' → DoneP w0 p q p' q' (St.play s ⟨3, line, off, A, n, c, b, K, m, d, keep⟩) (St.rplay r ⟨3, line, off, A, n, c, b, K, m, d, keep⟩) (.returned (.bool true)) w') := fun w' h1 h2 h3 => ⟨rfl, by rw [St.play, if_neg (by simp), if_neg (by simp), if_neg (by simp), if_pos rfl]; exact h1, by rw [St.rplay, if_neg (by simp), if_neg (by simp), if_neg (by simp), if_pos rfl]; exact h2, h3⟩
    generalize DoneP w0 p q p' q' _ _ = R at *
    go_enter Try.func16, Try.ntmps16
    obtain ⟨E, hE⟩ : ∃ E, err (has s.1 line) = E := ⟨_, rfl⟩
    have HE1 := Lib.hid hE
    have HEE : Hid (err (has r.1 line) = E) := by show _ = _; rw [← HS.out.has]; exact hE
    have hee : (E == E) = true := by simp
    have k1 := HBX.out.cell 1
    simp only [ActV.cells, List.getElem?_cons_zero, List.getElem?_cons_succ] at k1
    clear hE
    go_wp2_with fail
    rw [HW.out, HGX.out]
    go_region_held3 (fun w' => w'.cell? ⟨gx, 1, none⟩ = some (.int .i64 line)) (go_keep)
      (first
        | (go_at_call 29; refine (back_any HD.out.drew line).mono ?_; rintro e w2 ⟨rfl, hd, ht0⟩; have ht := (Turns.refl p q W).drew.trans ht0; obtain ⟨l1, l2, l3, l4⟩ := HLT.out; obtain ⟨n1, n2, n3, n4⟩ := HAP.out; obtain ⟨m1, m2, m3, m4⟩ := HP.out; have D2 := Lib.hid hd; have E2 : Hid (DvT w2 p' q' r) := HE.out.turns ht (Ne.symm n1) (Ne.symm n3) (Ne.symm n2) (Ne.symm n4); have X2 := Lib.hid (HBX.out.turns ht (by omega) (by omega)); have B2 : Hid (Below w0.heap.size w0 w2) := HB0.out.trans (ht.below m1 m2 HB0.out.size); have j1 := X2.out.cell 1; simp only [ActV.cells, List.getElem?_cons_zero, List.getElem?_cons_succ] at j1; rw [HE1.out]; clear hd ht ht0 l1 l2 l3 l4 n1 n2 n3 n4 m1 m2 m3 m4)
        | (go_at_call 14; refine (num_any E _).mono ?_; rintro e w' ⟨rfl, rfl⟩)
        | (go_at_call 42; refine (rback_any E2.out line).mono ?_; rintro e w3 ⟨rfl, hd, ht⟩; obtain ⟨l1, l2, l3, l4⟩ := HLT.out; obtain ⟨n1, n2, n3, n4⟩ := HAP.out; obtain ⟨m1, m2, m3, m4⟩ := HP.out; have E3 := Lib.hid hd; have D3 : Hid (DvS w3 p q (s.back line)) := D2.out.turns ht n1 n2 n3 n4; have X3 := Lib.hid (X2.out.turns ht (by omega) (by omega)); have B3 : Hid (Below w0.heap.size w0 w3) := B2.out.trans (ht.below m3 m4 B2.out.size); have i1 := X3.out.cell 1; simp only [ActV.cells, List.getElem?_cons_zero, List.getElem?_cons_succ] at i1; rw [HEE.out]; clear hd ht l1 l2 l3 l4 n1 n2 n3 n4 m1 m2 m3 m4))
    go_wp2
    exact HFIN.out _ D3.out E3.out B3.out
  rcases Classical.em (kd = 4) with rfl | h4
  · have HFIN : Hid (∀ w', DvS w' p q (s.cut keep) → DvT w' p' q' (r.rcut keep) → Below w0.heap.size w0 w' → DoneP w0 p q p' q' (St.play s ⟨4, line, off, A, n, c, b, K, m, d, keep⟩) (St.rplay r ⟨4, line, off, A, n, c, b, K, m, d, keep⟩) (.returned (.bool true)) w') := fun w' h1 h2 h3 => ⟨rfl, by rw [St.play, if_neg (by simp), if_neg (by simp), if_neg (by simp), if_neg (by simp), if_pos rfl]; exact h1, by rw [St.rplay, if_neg (by simp), if_neg (by simp), if_neg (by simp), if_neg (by simp), if_pos rfl]; exact h2, h3⟩
    generalize DoneP w0 p q p' q' _ _ = R at *
    go_enter Try.func16, Try.ntmps16
    go_wp2_with fail
    rw [HW.out, HGX.out]
    refine (lendi_any W K m d keep HKL.out HROWK.out HK0.out).mono ?_
    rintro e w1 ⟨g, rfl, hg, hlent, hb1⟩
    have HL1 := Lib.hid hlent
    have HG1 := Lib.hid hg
    have X1 := Lib.hid (HBX.out.below hb1)
    have D1 := Lib.hid (HD.out.below hb1)
    have E1 := Lib.hid (HE.out.below hb1)
    have B1 := Lib.hid (HB0.out.trans (hb1.mono HB0.out.size))
    have HW1 : Hid (W.heap.size ≤ w1.heap.size) := hb1.size
    have HNG : Hid (0 < keep.length → ∀ y, some (⟨g, 0, none⟩ : Addr) = some y → y.block ≠ p ∧ y.block ≠ q) := by
      intro _ y hy
      cases hy
      obtain ⟨l1, l2, l3, l4⟩ := HLT.out
      have := HGW.out
      constructor <;> show g ≠ _ <;> omega
    clear hlent hb1 hg
    go_wp2_with fail
    refine (cut_any D1.out (some ⟨g, 0, none⟩) m (m + 3) keep HKL.out (HL1.out.row (by have := HKL.out; omega)) HNG.out).mono ?_
    rintro e w2 ⟨V, rfl, ho, hd, ht⟩
    obtain ⟨l1, l2, l3, l4⟩ := HLT.out
    obtain ⟨n1, n2, n3, n4⟩ := HAP.out
    obtain ⟨m1, m2, m3, m4⟩ := HP.out
    have hgw := HGW.out
    have hg1 := HG1.out
    obtain ⟨lost, hlost⟩ : ∃ l, looseL (keepAll s.1 keep) = l := ⟨_, rfl⟩
    have HLO : Hid (rl (lostB r.1 keep) r.1.length = lost) := by rw [← HS.out.lost]; exact hlost
    have hll : lost.length ≤ 258 := by
      rw [← hlost]
      have h1 := idx_len (fun c => c.v != c.p) (keepAll s.1 keep) 0
      rw [keepAll_len] at h1
      have := D1.out.len
      exact Nat.le_trans h1 this
    rw [hlost] at ho
    obtain ⟨AL, capL, rfl, hrowL, _, _⟩ := rowI_of_own ho (by omega)
    have O2 := Lib.hid ho
    have RL2 := Lib.hid hrowL
    have D2 := Lib.hid hd
    have E2 : Hid (DvT w2 p' q' r) := E1.out.turns ht (Ne.symm n1) (Ne.symm n3) (Ne.symm n2) (Ne.symm n4)
    have X2 := Lib.hid (X1.out.turns ht (by omega) (by omega))
    have L2 : Hid (LentI w2 g keep) := BlkI.turns HL1.out ht (by omega) (by omega)
    have B2 : Hid (Below w0.heap.size w0 w2) := B1.out.trans (ht.below m1 m2 B1.out.size)
    have W12 : Hid (w1.heap.size ≤ w2.heap.size) := ht.size
    have k4 := X2.out.cell 4
    simp only [ActV.cells, List.getElem?_cons_zero, List.getElem?_cons_succ] at k4
    have HRC := Lib.hid (rcut_any E2.out K m d keep HKL.out (HROWK0.out.below B2.out) HNE.out)
    rw [HLO.out] at HRC
    obtain ⟨nl, hnl⟩ : ∃ n, lost.length = n := ⟨_, rfl⟩
    rw [hnl] at O2 HRC hll ⊢
    have HNL := Lib.hid hnl
    clear ho hd ht hrowL hlost hnl l1 l2 l3 l4 n1 n2 n3 n4 m1 m2 m3 m4 hgw hg1
    go_wp2_with fail
    refine HRC.out.mono ?_
    rintro e w3 ⟨V', rfl, ho, hd, ht⟩
    obtain ⟨AM, capM, rfl, hrowM, _, _⟩ := rowI_of_own ho (by have := HNL.out; omega)
    obtain ⟨l1, l2, l3, l4⟩ := HLT.out
    obtain ⟨n1, n2, n3, n4⟩ := HAP.out
    obtain ⟨m1, m2, m3, m4⟩ := HP.out
    have hgw := HGW.out
    have hg1 := HG1.out
    have hw1 := HW1.out
    have E3 := Lib.hid hd
    have D3 : Hid (DvS w3 p q (s.cut keep)) := D2.out.turns ht n1 n2 n3 n4
    have X3 := Lib.hid (X2.out.turns ht (by omega) (by omega))
    have L3 : Hid (LentI w3 g keep) := BlkI.turns L2.out ht (by omega) (by omega)
    have B3 : Hid (Below w0.heap.size w0 w3) := B2.out.trans (ht.below m3 m4 B2.out.size)
    have O3 := Lib.hid (own_turns O2.out ht (by omega) (by omega))
    have hrowL3 : RowI w3 AL lost := by
      obtain ⟨A', cap', e', hr', _, _⟩ := rowI_of_own O3.out (by have := HNL.out; omega)
      injection e' with e1 _ _
      rw [e1]
      exact hr'
    have HSI := Lib.hid (samei_any w3 AL AM _ capL capM lost HNL.out hrowL3 hrowM)
    have j4 := X3.out.cell 4
    simp only [ActV.cells, List.getElem?_cons_zero, List.getElem?_cons_succ] at j4
    have W13 : Hid (w1.heap.size ≤ w3.heap.size) := Nat.le_trans W12.out ht.size
    clear ho hd ht hrowM hrowL3 k4 l1 l2 l3 l4 n1 n2 n3 n4 m1 m2 m3 m4 hgw hg1 hw1
    go_wp2_with fail
    refine HSI.out.mono ?_
    rintro e w' ⟨rfl, t1, rfl⟩
    go_wp2_with fail
    refine (kepti_any (w3.drewN t1) g K m d keep HKL.out (by omega) (BlkI.below L3.out (below_drewN (Below.refl _ _) t1) L3.out.lt) ((HROWK0.out.below B3.out).below (below_drewN (Below.refl _ _) t1))).mono ?_
    rintro e w' ⟨rfl, t2, rfl⟩
    go_wp2_with fail
    refine (overi_sp (w3.drewN (t1 + t2)) w1.heap.size nl _ lost HNL.out (by omega) O3.out W13.out).mono ?_
    rintro e w5 ⟨rfl, hsp⟩
    obtain ⟨l1, l2, l3, l4⟩ := HLT.out
    have hgw := HGW.out
    have hw1 := HW1.out
    have hge := own_ge O2.out
    have hbb : Below w1.heap.size w3 w5 := (below_drewN (Below.refl _ _) (t1 + t2)).trans (hsp.below hge W13.out)
    have D5 : Hid (DvS w5 p q (s.cut keep)) := D3.out.same (hbb.block p (by omega)) (hbb.block q (by omega))
    have E5 : Hid (DvT w5 p' q' (r.rcut keep)) := E3.out.same (hbb.block p' (by omega)) (hbb.block q' (by omega))
    have B5 : Hid (Below w0.heap.size w0 w5) := B3.out.trans (hbb.mono (by have := B1.out.size; omega))
    clear hsp hge hbb l1 l2 l3 l4 hgw hw1 j4
    go_wp2
    exact HFIN.out _ D5.out E5.out B5.out
  have HFIN : Hid (DoneP w0 p q p' q' (St.play s ⟨kd, line, off, A, n, c, b, K, m, d, keep⟩) (St.rplay r ⟨kd, line, off, A, n, c, b, K, m, d, keep⟩) (.returned (.bool true)) W) := ⟨rfl, by rw [St.play, if_neg h0, if_neg h1, if_neg h2, if_neg h3, if_neg h4]; exact HD.out, by rw [St.rplay, if_neg h0, if_neg h1, if_neg h2, if_neg h3, if_neg h4]; exact HE.out, HB0.out⟩
  have e0 : (kd == 0) = false := by simpa using h0
  have e1 : (kd == 1) = false := by simpa using h1
  have e2 : (kd == 2) = false := by simpa using h2
  have e3 : (kd == 3) = false := by simpa using h3
  have e4 : (kd == 4) = false := by simpa using h4
  clear h0 h1 h2 h3 h4
  generalize DoneP w0 p q p' q' _ _ = R at *
  go_enter Try.func16, Try.ntmps16
  go_wp2
  rw [HW.out]
  exact HFIN.out

end Go.Proofs.Ytgfbehdnmdmnhaa
