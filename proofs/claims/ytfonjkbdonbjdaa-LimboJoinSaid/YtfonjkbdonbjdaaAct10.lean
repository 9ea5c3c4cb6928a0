/-
  Proved here: what the statements' own act answers and leaves.
  Conditions: epochs below 2^32.
-/
import Derived.Test.YtfonjkbdonbjdaaFour10
import Derived.Test.YtfonjkbdonbjdaaNum
import Derived.Test.YtfonjkbdonbjdaaArrs
import Derived.Deep.RegionHeld3
namespace Go.Proofs.Ytfonjkbdonbjdaa
open Go Go.RowKit

def stepL (x : ActP) (R : List Nat) (L : List En) : List En := if x.kd = 0 then putB L x.e else if x.kd = 1 then popE (readyB (quietB R) x.dur) L else L
def stepR (x : ActP) (R : List Nat) (now : Nat) : List Nat := if x.kd = 3 then enterL R now x.t else if x.kd = 4 then leaveL R x.t else R
def stepN (x : ActP) (now : Nat) : Nat := if x.kd = 5 then now + 1 else now
theorem cells8 {w : World} {g : Nat} {T : TypeId} {v0 v1 v2 v3 v4 v5 v6 v7 : Value} (h : w.heap[g]? = some (.cells #[v0, v1, v2, v3, v4, v5, v6, v7] T (0, 0))) : w.cell? ⟨g, 0, none⟩ = some v0 ∧ w.cell? ⟨g, 1, none⟩ = some v1 ∧ w.cell? ⟨g, 2, none⟩ = some v2 ∧ w.cell? ⟨g, 3, none⟩ = some v3 ∧ w.cell? ⟨g, 4, none⟩ = some v4 ∧ w.cell? ⟨g, 5, none⟩ = some v5 ∧ w.cell? ⟨g, 6, none⟩ = some v6 ∧ w.cell? ⟨g, 7, none⟩ = some v7 := by
  refine ⟨?_, ?_, ?_, ?_, ?_, ?_, ?_, ?_⟩ <;> simp [World.cell?, h]
set_option maxHeartbeats 4000000 in
set_option maxRecDepth 100000 in
theorem act_any {w0 w : World} {g p q r s a b c d now : Nat} {L : List En} {R : List Nat} (h : Fo w0 g w p q r s a b c d L L R now R now) (hn : now + 1 < 4294967296) (x : ActP) :
    Calls Try.prog 12 #[.pointer (some ⟨p, 0, none⟩), .pointer (some ⟨r, 0, none⟩), .pointer (some ⟨a, 0, none⟩), .pointer (some ⟨c, 0, none⟩), .agg #[.int .i64 x.kd, .int .i64 x.t, .int .i64 x.e.line, .int .i64 x.e.cl, .int .u64 (x.e.r : Nat), .int .u64 (x.e.d : Nat), .int .i64 x.e.anti, .int .u64 (x.dur : Nat)]] w fun y w' =>
      y = .returned (.bool true) ∧ ∃ q' s', Fo w0 g w' p q' r s' a b c d (stepL x R L) (stepL x R L) (stepR x R now) (stepN x now) (stepR x R now) (stepN x now) := by
  obtain ⟨bx, hbx⟩ : ∃ bx, w.heap.size = bx := ⟨_, rfl⟩
  have l1 := h.bg.lt_p
  have l2 := h.bg.lt_q
  have l3 := h.rb.lt_p
  have l4 := h.rb.lt_q
  have l5 := h.rd.lt_p
  have l6 := h.rd.lt_q
  have l7 := h.rr.lt_p
  have l8 := h.rr.lt_q
  rw [hbx] at l1 l2 l3 l4 l5 l6 l7 l8
  obtain ⟨w1, hw1⟩ : ∃ w1, w.alloc (.cells #[.int .i64 x.kd, .int .i64 x.t, .int .i64 x.e.line, .int .i64 x.e.cl, .int .u64 (x.e.r : Nat), .int .u64 (x.e.d : Nat), .int .i64 x.e.anti, .int .u64 (x.dur : Nat)] 42) = w1 := ⟨_, rfl⟩
  have HF1 : Hid (Fo w0 g w1 p q r s a b c d L L R now R now) := by rw [← hw1]; exact h.below ((Below.refl _ _).alloc (Nat.le_refl _) _)
  have HX1 : Hid (w1.heap[bx]? = some (.cells #[.int .i64 x.kd, .int .i64 x.t, .int .i64 x.e.line, .int .i64 x.e.cl, .int .u64 (x.e.r : Nat), .int .u64 (x.e.d : Nat), .int .i64 x.e.anti, .int .u64 (x.dur : Nat)] 42 (0, 0))) := by rw [← hw1, ← hbx]; exact heap_alloc_new w _
  have HLT : Hid (bx < w1.heap.size) := lt_of_heap HX1.out
  have HT : Hid (∀ P Q wa wb, P < bx → Q < bx → bx < wa.heap.size → Turns P Q wa wb → wb.heap[bx]? = wa.heap[bx]? ∧ bx < wb.heap.size) := fun P Q wa wb h1 h2 h3 ht => ⟨ht.block bx (by omega) (by omega) h3, Nat.lt_of_lt_of_le h3 ht.size⟩
  have HL := Lib.hid (show p < bx ∧ q < bx ∧ r < bx ∧ s < bx ∧ a < bx ∧ b < bx ∧ c < bx ∧ d < bx from ⟨l1, l2, l3, l4, l5, l6, l7, l8⟩)
  have HZ := Lib.hid zero_entry
  have hgu := guard_entry
  have HN := Lib.hid hn
  clear l1 l2 l3 l4 l5 l6 l7 l8 h hn
  obtain ⟨d0, d1, d2, d3, d4, d5, d6, d7⟩ := cells8 HX1.out
  obtain ⟨Rr, hRr⟩ : ∃ Rr : Ending → World → Prop, (fun y w' => y = .returned (.bool true) ∧ ∃ q' s', Fo w0 g w' p q' r s' a b c d (stepL x R L) (stepL x R L) (stepR x R now) (stepN x now) (stepR x R now) (stepN x now)) = Rr := ⟨_, rfl⟩
  rw [hRr]
  have HR : Hid (∀ w' q' s' L' R' n', stepL x R L = L' → stepR x R now = R' → stepN x now = n' → Fo w0 g w' p q' r s' a b c d L' L' R' n' R' n' → Rr (.returned (.bool true)) w') := fun w' q' s' L' R' n' e1 e2 e3 h => by
    rw [← hRr]
    subst e1 e2 e3
    exact ⟨rfl, q', s', h⟩
  clear hRr
  rcases Classical.em (x.kd = 0) with h0 | h0
  · have HPU := Lib.hid (bgput_any (w := w1.drew) (HF1.out.drewN 1).bg (HF1.out.drewN 1).gw x.e)
    have HPR : Hid (∀ w2 q2, Fo w0 g w2 p q2 r s a b c d (putB L x.e) L R now R now → Calls Try.prog 28 #[.pointer (some ⟨r, 0, none⟩), .agg #[.int .i64 x.e.line, .int .i64 x.e.cl, .int .u64 (x.e.r : Nat), .int .u64 (x.e.d : Nat), .int .i64 x.e.anti]] w2 fun y w' => y = .returned (.int .i64 (putE L x.e)) ∧ RbTo w2 r g s (putB L x.e) w') := fun w2 q2 h => rput_any h.rb h.gw x.e
    have HF1d : Hid (Fo w0 g w1.drew p q r s a b c d L L R now R now) := HF1.out.drewN 1
    have HB : Hid (∀ w2, BgTo w1.drew p g q (putB L x.e) w2 → (∃ q', Fo w0 g w2 p q' r s a b c d (putB L x.e) L R now R now) ∧ w2.heap[bx]? = w1.heap[bx]? ∧ bx < w2.heap.size) := fun w2 hb => ⟨HF1d.out.bagTo hb, HT.out p q w1.drew w2 HL.out.1 HL.out.2.1 HLT.out (by obtain ⟨_, _, h2, _⟩ := hb; exact h2)⟩
    have HSL : Hid (stepL x R L = putB L x.e) := by show _ = _; simp [stepL, h0]
    have HSR : Hid (stepR x R now = R) := by show _ = _; simp [stepR, h0]
    have HSN : Hid (stepN x now = now) := by show _ = _; simp [stepN, h0]
    have k0 : (x.kd == 0) = true := by simpa using h0
    generalize putB L x.e = L' at *
    generalize putE L x.e = er at *
    have hee : (er == er) = true := by simp
    generalize x.e.line = x0 at *
    generalize x.e.cl = x1 at *
    generalize (x.e.r : Int) = x2 at *
    generalize (x.e.d : Int) = x3 at *
    generalize x.e.anti = x4 at *
    clear h0
    go_enter Try.func12, Try.ntmps12
    go_wp2
    go_region_held3 (fun w' => w'.cell? ⟨bx, 2, none⟩ = some (.int .i64 x0) ∧ w'.cell? ⟨bx, 3, none⟩ = some (.int .i64 x1) ∧ w'.cell? ⟨bx, 4, none⟩ = some (.int .u64 x2) ∧ w'.cell? ⟨bx, 5, none⟩ = some (.int .u64 x3) ∧ w'.cell? ⟨bx, 6, none⟩ = some (.int .i64 x4)) (go_keep)
      (first
        | (go_at_call 18; refine HPU.out.mono ?_; rintro y w2 ⟨rfl, hb2⟩; obtain ⟨⟨q2, hf2⟩, hx2, hl2⟩ := HB.out _ hb2; have HF2 := Lib.hid hf2; have HX2 := Lib.hid (hx2.trans HX1.out); have HL2 := Lib.hid hl2; obtain ⟨e0, e1, e2, e3, e4, e5, e6, e7⟩ := cells8 HX2.out; clear hb2 hf2 hx2 hl2)
        | (go_at_call 27; refine (num_any er _).mono ?_; rintro y w' ⟨rfl, rfl⟩)
        | (go_at_call 28; refine (HPR.out _ _ HF2.out).mono ?_; rintro y w3 ⟨rfl, hb3⟩; have hx3 := (HT.out r r w2 w3 HL.out.2.2.1 HL.out.2.2.1 HL2.out (by obtain ⟨_, _, h2, _⟩ := hb3; exact h2)).1; obtain ⟨s3, hf3⟩ := HF2.out.refTo hb3; have HF3 := Lib.hid hf3; obtain ⟨f0, f1, f2, f3, f4, f5, f6, f7⟩ := cells8 (hx3.trans HX2.out); clear hb3 hf3 hx3))
    all_goals
      go_wp2
      exact HR.out _ _ _ _ _ _ HSL.out HSR.out HSN.out HF3.out
  · rcases Classical.em (x.kd = 1) with h1 | h1
    · have hk := h1
      have HSL : Hid (stepL x R L = (popE (readyB (quietB R) x.dur) L)) := by show _ = _; simp [stepL, hk]
      have HSR : Hid (stepR x R now = R) := by show _ = _; simp [stepR, hk]
      have HSN : Hid (stepN x now = now) := by show _ = _; simp [stepN, hk]
      have k0 : (x.kd == 0) = false := by simp [hk]
      have k1 : (x.kd == 1) = true := by simp [hk]
      have HPU := Lib.hid (bgpop_any HF1.out.bg HF1.out.rd x.dur)
      have HPR : Hid (∀ w2, Fo w0 g w2 p q r s a b c d (popE (readyB (quietB R) x.dur) L) L R now R now → Calls Try.prog 29 #[.pointer (some ⟨r, 0, none⟩), .pointer (some ⟨c, 0, none⟩), .int .u64 (x.dur : Nat)] w2 fun y w' => y = .returned (.tuple #[.agg #[.int .i64 (headE (readyB (quietB R) x.dur) L).line, .int .i64 (headE (readyB (quietB R) x.dur) L).cl, .int .u64 ((headE (readyB (quietB R) x.dur) L).r : Nat), .int .u64 ((headE (readyB (quietB R) x.dur) L).d : Nat), .int .i64 (headE (readyB (quietB R) x.dur) L).anti], .bool (hasE (readyB (quietB R) x.dur) L)]) ∧ RbTo w2 r g s (popE (readyB (quietB R) x.dur) L) w') := fun w2 h => rpop_any h.rb h.gw h.rr x.dur
      unfold En.val at HPU
      generalize popE (readyB (quietB R) x.dur) L = L' at *
      generalize hasE (readyB (quietB R) x.dur) L = hb at *
      generalize headE (readyB (quietB R) x.dur) L = e at *
      generalize e.line = y0 at *
      generalize e.cl = y1 at *
      generalize (e.r : Int) = y2 at *
      generalize (e.d : Int) = y3 at *
      generalize e.anti = y4 at *
      have q0 : (y0 == y0) = true := by simp
      have q1 : (y1 == y1) = true := by simp
      have q2' : (y2 == y2) = true := by simp
      have q3 : (y3 == y3) = true := by simp
      have q4 : (y4 == y4) = true := by simp
      have q5 : (hb == hb) = true := by simp
      generalize x.e.line = x0 at *
      generalize x.e.cl = x1 at *
      generalize (x.e.r : Int) = x2 at *
      generalize (x.e.d : Int) = x3 at *
      generalize x.e.anti = x4 at *
      clear hk h0 h1
      go_enter Try.func12, Try.ntmps12
      go_wp2_with fail
      refine HPU.out.mono ?_
      rintro y w2 ⟨rfl, hb2, ht2⟩
      have HX2 := Lib.hid ((HT.out p q w1 w2 HL.out.1 HL.out.2.1 HLT.out ht2).1.trans HX1.out)
      have HF2 := Lib.hid (HF1.out.bagPop hb2 ht2)
      clear hb2 ht2
      obtain ⟨g2, hg2⟩ : ∃ g2, w2.heap.size = g2 := ⟨_, rfl⟩
      have HG2 := Lib.hid hg2
      have HL2 : Hid (bx < g2) := hg2 ▸ lt_of_heap HX2.out
      clear hg2
      go_wp2_with (first
        | ((with_reducible show wpList _ _ _ (⟨some 11, .alloc _, _, _, _, _⟩ :: _) _ _); refine wpList_alloc_var (o := ⟨some 11, _, _, _, _, _⟩) rfl 40 rfl g2 HG2.out _ HZ.out ?_; intro w3 H3 X3)
        | ((with_reducible show wpList _ _ _ (⟨none, .store _ (.tmp 11) _, _, _, _, _⟩ :: _) _ _); refine wpList_store_whole (o := ⟨none, .store 40 (.tmp 11) (.tmp 41), _, _, _, _⟩) rfl _ _ _ rfl rfl g2 #[.int .i64 y0, .int .i64 y1, .int .u64 y2, .int .u64 y3, .int .i64 y4] rfl rfl 40 _ H3.out size_entry rfl (ones5 _ _ _ _ _) ?_; intro w4 H4 X4; have X34 := Lib.hid (X3.out.trans X4.out); have HF4 := Lib.hid (HF2.out.below (HG2.out.symm ▸ X34.out)); have HX4 := Lib.hid ((X34.out.block bx HL2.out).trans HX2.out); obtain ⟨e0, e1, e2, e3, e4, e5, e6, e7⟩ := cells8 HX4.out)
        | fail)
      refine (HPR.out _ HF4.out).mono ?_
      rintro y w5 ⟨rfl, hb5⟩
      have HH5 := Lib.hid ((show Turns r r w4 w5 from by obtain ⟨_, _, h2, _⟩ := hb5; exact h2).block g2 (Nat.ne_of_gt (Nat.lt_trans HL.out.2.2.1 HL2.out)) (Nat.ne_of_gt (Nat.lt_trans HL.out.2.2.1 HL2.out)) (lt_of_heap H4.out) |>.trans H4.out)
      obtain ⟨s5, hf5⟩ := HF4.out.refTo hb5
      have HF5 := Lib.hid hf5
      clear hb5 hf5
      obtain ⟨g5, hg5⟩ : ∃ g5, w5.heap.size = g5 := ⟨_, rfl⟩
      have HG5 := Lib.hid hg5
      have HL5 : Hid (g2 < g5) := hg5 ▸ lt_of_heap HH5.out
      clear hg5
      go_wp2_with (first
        | ((with_reducible show wpList _ _ _ (⟨some 13, .alloc _, _, _, _, _⟩ :: _) _ _); refine wpList_alloc_var (o := ⟨some 13, _, _, _, _, _⟩) rfl 40 rfl g5 HG5.out _ HZ.out ?_; intro w6 H6 X6)
        | ((with_reducible show wpList _ _ _ (⟨none, .store _ (.tmp 13) _, _, _, _, _⟩ :: _) _ _); refine wpList_store_whole (o := ⟨none, .store 40 (.tmp 13) (.tmp 49), _, _, _, _⟩) rfl _ _ _ rfl rfl g5 #[.int .i64 y0, .int .i64 y1, .int .u64 y2, .int .u64 y3, .int .i64 y4] rfl rfl 40 _ H6.out size_entry rfl (ones5 _ _ _ _ _) ?_; intro w7 H7 X7; have X67 := Lib.hid (X6.out.trans X7.out); have HF7 := Lib.hid (HF5.out.below (HG5.out.symm ▸ X67.out)); obtain ⟨m0, m1, m2, m3, m4⟩ := cells5 ((X67.out.block g2 HL5.out).trans HH5.out); obtain ⟨n0, n1, n2, n3, n4⟩ := cells5 H7.out)
        | fail)
      exact HR.out _ _ _ _ _ _ HSL.out HSR.out HSN.out HF7.out
    · rcases Classical.em (x.kd = 2) with h2 | h2
      · have hk := h2
        have HSL : Hid (stepL x R L = L) := by show _ = _; simp [stepL, hk]
        have HSR : Hid (stepR x R now = R) := by show _ = _; simp [stepR, hk]
        have HSN : Hid (stepN x now = now) := by show _ = _; simp [stepN, hk]
        have k0 : (x.kd == 0) = false := by simp [hk]
        have k1 : (x.kd == 1) = false := by simp [hk]
        have k2 : (x.kd == 2) = true := by simp [hk]
        have HPU := Lib.hid (bgready_bag HF1.out.bg HF1.out.rd x.dur)
        have HPR : Hid (∀ w2, Fo w0 g w2 p q r s a b c d L L R now R now → Calls Try.prog 30 #[.pointer (some ⟨r, 0, none⟩), .pointer (some ⟨c, 0, none⟩), .int .u64 (x.dur : Nat)] w2 fun y w' => y = .returned (.tuple #[.agg #[.int .i64 (headE (readyB (quietB R) x.dur) L).line, .int .i64 (headE (readyB (quietB R) x.dur) L).cl, .int .u64 ((headE (readyB (quietB R) x.dur) L).r : Nat), .int .u64 ((headE (readyB (quietB R) x.dur) L).d : Nat), .int .i64 (headE (readyB (quietB R) x.dur) L).anti], .bool (hasE (readyB (quietB R) x.dur) L)]) ∧ Below w2.heap.size w2 w') := fun w2 h => rready_any h.rb h.rr x.dur
        unfold En.val at HPU
        generalize hasE (readyB (quietB R) x.dur) L = hb at *
        generalize headE (readyB (quietB R) x.dur) L = e at *
        generalize e.line = y0 at *
        generalize e.cl = y1 at *
        generalize (e.r : Int) = y2 at *
        generalize (e.d : Int) = y3 at *
        generalize e.anti = y4 at *
        have q0 : (y0 == y0) = true := by simp
        have q1 : (y1 == y1) = true := by simp
        have q2' : (y2 == y2) = true := by simp
        have q3 : (y3 == y3) = true := by simp
        have q4 : (y4 == y4) = true := by simp
        have q5 : (hb == hb) = true := by simp
        generalize x.e.line = x0 at *
        generalize x.e.cl = x1 at *
        generalize (x.e.r : Int) = x2 at *
        generalize (x.e.d : Int) = x3 at *
        generalize x.e.anti = x4 at *
        clear hk h0 h1 h2
        go_enter Try.func12, Try.ntmps12
        go_wp2_with fail
        refine HPU.out.mono ?_
        rintro y w2 ⟨rfl, hb2⟩
        have HX2 := Lib.hid ((hb2.block bx HLT.out).trans HX1.out)
        have HF2 := Lib.hid (HF1.out.below hb2)
        clear hb2
        obtain ⟨g2, hg2⟩ : ∃ g2, w2.heap.size = g2 := ⟨_, rfl⟩
        have HG2 := Lib.hid hg2
        have HL2 : Hid (bx < g2) := hg2 ▸ lt_of_heap HX2.out
        clear hg2
        go_wp2_with (first
          | ((with_reducible show wpList _ _ _ (⟨some 15, .alloc _, _, _, _, _⟩ :: _) _ _); refine wpList_alloc_var (o := ⟨some 15, _, _, _, _, _⟩) rfl 40 rfl g2 HG2.out _ HZ.out ?_; intro w3 H3 X3)
          | ((with_reducible show wpList _ _ _ (⟨none, .store _ (.tmp 15) _, _, _, _, _⟩ :: _) _ _); refine wpList_store_whole (o := ⟨none, .store 40 (.tmp 15) (.tmp 67), _, _, _, _⟩) rfl _ _ _ rfl rfl g2 #[.int .i64 y0, .int .i64 y1, .int .u64 y2, .int .u64 y3, .int .i64 y4] rfl rfl 40 _ H3.out size_entry rfl (ones5 _ _ _ _ _) ?_; intro w4 H4 X4; have X34 := Lib.hid (X3.out.trans X4.out); have HF4 := Lib.hid (HF2.out.below (HG2.out.symm ▸ X34.out)); have HX4 := Lib.hid ((X34.out.block bx HL2.out).trans HX2.out); obtain ⟨e0, e1, e2, e3, e4, e5, e6, e7⟩ := cells8 HX4.out)
          | fail)
        refine (HPR.out _ HF4.out).mono ?_
        rintro y w5 ⟨rfl, hb5⟩
        have HH5 := Lib.hid ((hb5.block g2 (lt_of_heap H4.out)).trans H4.out)
        have HF5 := Lib.hid (HF4.out.below hb5)
        clear hb5
        obtain ⟨g5, hg5⟩ : ∃ g5, w5.heap.size = g5 := ⟨_, rfl⟩
        have HG5 := Lib.hid hg5
        have HL5 : Hid (g2 < g5) := hg5 ▸ lt_of_heap HH5.out
        clear hg5
        go_wp2_with (first
          | ((with_reducible show wpList _ _ _ (⟨some 17, .alloc _, _, _, _, _⟩ :: _) _ _); refine wpList_alloc_var (o := ⟨some 17, _, _, _, _, _⟩) rfl 40 rfl g5 HG5.out _ HZ.out ?_; intro w6 H6 X6)
          | ((with_reducible show wpList _ _ _ (⟨none, .store _ (.tmp 17) _, _, _, _, _⟩ :: _) _ _); refine wpList_store_whole (o := ⟨none, .store 40 (.tmp 17) (.tmp 75), _, _, _, _⟩) rfl _ _ _ rfl rfl g5 #[.int .i64 y0, .int .i64 y1, .int .u64 y2, .int .u64 y3, .int .i64 y4] rfl rfl 40 _ H6.out size_entry rfl (ones5 _ _ _ _ _) ?_; intro w7 H7 X7; have X67 := Lib.hid (X6.out.trans X7.out); have HF7 := Lib.hid (HF5.out.below (HG5.out.symm ▸ X67.out)); obtain ⟨m0, m1, m2, m3, m4⟩ := cells5 ((X67.out.block g2 HL5.out).trans HH5.out); obtain ⟨n0, n1, n2, n3, n4⟩ := cells5 H7.out)
          | fail)
        exact HR.out _ _ _ _ _ _ HSL.out HSR.out HSN.out HF7.out
      · rcases Classical.em (x.kd = 3) with h3 | h3
        · have hk := h3
          have HSL : Hid (stepL x R L = L) := by show _ = _; simp [stepL, hk]
          have HSR : Hid (stepR x R now = enterL R now x.t) := by show _ = _; simp [stepR, hk]
          have HSN : Hid (stepN x now = now) := by show _ = _; simp [stepN, hk]
          have k0 : (x.kd == 0) = false := by simp [hk]
          have k1 : (x.kd == 1) = false := by simp [hk]
          have k2 : (x.kd == 2) = false := by simp [hk]
          have k3 : (x.kd == 3) = true := by simp [hk]
          have HPU := Lib.hid (rdenter_any HF1.out.rd x.t)
          have HPR := Lib.hid (fun w2 (h : Fo w0 g w2 p q r s a b c d L L (enterL R now x.t) (now) R now) => r8enter_any h.rr x.t)
          clear hk h0 h1 h2 h3
          go_enter Try.func12, Try.ntmps12
          go_wp2_with fail
          refine HPU.out.mono ?_
          rintro y w2 ⟨rfl, hb2, ht2⟩
          have HX2 := Lib.hid ((HT.out a b w1 w2 HL.out.2.2.2.2.1 HL.out.2.2.2.2.2.1 HLT.out ht2).1.trans HX1.out)
          have HF2 := Lib.hid (HF1.out.clk hb2 ht2)
          obtain ⟨e0, e1, e2, e3, e4, e5, e6, e7⟩ := cells8 HX2.out
          clear hb2 ht2
          go_wp2_with fail
          refine (HPR.out _ HF2.out).mono ?_
          rintro y w3 ⟨rfl, hb3, ht3⟩
          have HF3 := Lib.hid (HF2.out.rclk hb3 ht3)
          clear hb3 ht3
          go_wp2
          exact HR.out _ _ _ _ _ _ HSL.out HSR.out HSN.out HF3.out
        · rcases Classical.em (x.kd = 4) with h4 | h4
          · have hk := h4
            have HSL : Hid (stepL x R L = L) := by show _ = _; simp [stepL, hk]
            have HSR : Hid (stepR x R now = leaveL R x.t) := by show _ = _; simp [stepR, hk]
            have HSN : Hid (stepN x now = now) := by show _ = _; simp [stepN, hk]
            have k0 : (x.kd == 0) = false := by simp [hk]
            have k1 : (x.kd == 1) = false := by simp [hk]
            have k2 : (x.kd == 2) = false := by simp [hk]
            have k3 : (x.kd == 3) = false := by simp [hk]
            have k4 : (x.kd == 4) = true := by simp [hk]
            have HPU := Lib.hid (rdleave_any HF1.out.rd x.t)
            have HPR := Lib.hid (fun w2 (h : Fo w0 g w2 p q r s a b c d L L (leaveL R x.t) (now) R now) => r8leave_any h.rr x.t)
            clear hk h0 h1 h2 h3 h4
            go_enter Try.func12, Try.ntmps12
            go_wp2_with fail
            refine HPU.out.mono ?_
            rintro y w2 ⟨rfl, hb2, ht2⟩
            have HX2 := Lib.hid ((HT.out a b w1 w2 HL.out.2.2.2.2.1 HL.out.2.2.2.2.2.1 HLT.out ht2).1.trans HX1.out)
            have HF2 := Lib.hid (HF1.out.clk hb2 ht2)
            obtain ⟨e0, e1, e2, e3, e4, e5, e6, e7⟩ := cells8 HX2.out
            clear hb2 ht2
            go_wp2_with fail
            refine (HPR.out _ HF2.out).mono ?_
            rintro y w3 ⟨rfl, hb3, ht3⟩
            have HF3 := Lib.hid (HF2.out.rclk hb3 ht3)
            clear hb3 ht3
            go_wp2
            exact HR.out _ _ _ _ _ _ HSL.out HSR.out HSN.out HF3.out
          · rcases Classical.em (x.kd = 5) with h5 | h5
            · have hk := h5
              have HSL : Hid (stepL x R L = L) := by show _ = _; simp [stepL, hk]
              have HSR : Hid (stepR x R now = R) := by show _ = _; simp [stepR, hk]
              have HSN : Hid (stepN x now = now + 1) := by show _ = _; simp [stepN, hk]
              have k0 : (x.kd == 0) = false := by simp [hk]
              have k1 : (x.kd == 1) = false := by simp [hk]
              have k2 : (x.kd == 2) = false := by simp [hk]
              have k3 : (x.kd == 3) = false := by simp [hk]
              have k4 : (x.kd == 4) = false := by simp [hk]
              have k5 : (x.kd == 5) = true := by simp [hk]
              have HPU := Lib.hid (rdadv_any HF1.out.rd HN.out)
              have HPR := Lib.hid (fun w2 (h : Fo w0 g w2 p q r s a b c d L L (R) (now + 1) R now) => r8adv_any h.rr HN.out)
              clear hk h0 h1 h2 h3 h4 h5
              go_enter Try.func12, Try.ntmps12
              go_wp2_with fail
              refine HPU.out.mono ?_
              rintro y w2 ⟨rfl, hb2, ht2⟩
              have HX2 := Lib.hid ((HT.out a b w1 w2 HL.out.2.2.2.2.1 HL.out.2.2.2.2.2.1 HLT.out ht2).1.trans HX1.out)
              have HF2 := Lib.hid (HF1.out.clk hb2 ht2)
              obtain ⟨e0, e1, e2, e3, e4, e5, e6, e7⟩ := cells8 HX2.out
              clear hb2 ht2
              go_wp2_with fail
              refine (HPR.out _ HF2.out).mono ?_
              rintro y w3 ⟨rfl, hb3, ht3⟩
              have HF3 := Lib.hid (HF2.out.rclk hb3 ht3)
              clear hb3 ht3
              go_wp2
              exact HR.out _ _ _ _ _ _ HSL.out HSR.out HSN.out HF3.out
            · have HSL : Hid (stepL x R L = L) := by show _ = _; simp [stepL, h0, h1]
              have HSR : Hid (stepR x R now = R) := by show _ = _; simp [stepR, h3, h4]
              have HSN : Hid (stepN x now = now) := by show _ = _; simp [stepN, h5]
              have k0 : (x.kd == 0) = false := by simpa using h0
              have k1 : (x.kd == 1) = false := by simpa using h1
              have k2 : (x.kd == 2) = false := by simpa using h2
              have k3 : (x.kd == 3) = false := by simpa using h3
              have k4 : (x.kd == 4) = false := by simpa using h4
              have k5 : (x.kd == 5) = false := by simpa using h5
              clear h0 h1 h2 h3 h4 h5
              go_enter Try.func12, Try.ntmps12
              go_wp2
              exact HR.out _ _ _ _ _ _ HSL.out HSR.out HSN.out HF1.out

end Go.Proofs.Ytfonjkbdonbjdaa
