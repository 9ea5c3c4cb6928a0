/-
  Proved here: the program's order and chapter 12's own beside one another; an act in a variable.
  Conditions: none.
-/
import Derived.Test.YtfdifimakaiccaaPlays13
import Derived.Test.YtfdifimakaiccaaRef12E
import Derived.Test.YtfdifimakaiccaaRef13
import Derived.Test.YtfdifimakaiccaaSame12
namespace Go.Proofs.Ytfdifimakaiccaa
open Go Go.RowKit
set_option maxRecDepth 100000


/-! ### Both tables -/
/-- The program's table at g and the chapter's own at r, behind a world of g blocks. N: blocks that neither of them has. -/
structure Pr (w0 : World) (g : Nat) (w : World) (r q : Nat) (m : Nat → Value) (N : Nat → Prop) (L1 L2 : List Ln) : Prop where
  tg : Tg w0 g w g m L1
  rt : Rt w r g q L2
  gr : g ≤ r
  far : ¬ odOwn g m r ∧ ¬ odOwn g m q
  out : ∀ k, N k → k < w.heap.size ∧ g ≤ k ∧ ¬ odOwn g m k ∧ k ≠ r ∧ k ≠ q
section
variable {w0 w w' : World} {g r q : Nat} {m : Nat → Value} {N : Nat → Prop} {L1 L2 L' : List Ln}
theorem Pr.below (h : Pr w0 g w r q m N L1 L2) (hb : Below w.heap.size w w') : Pr w0 g w' r q m N L1 L2 :=
  ⟨h.tg.below hb, h.rt.below hb, h.gr, h.far, fun k hk => ⟨Nat.lt_of_lt_of_le (h.out k hk).1 hb.size, (h.out k hk).2⟩⟩
theorem Pr.drewN (h : Pr w0 g w r q m N L1 L2) (k : Nat) : Pr w0 g (w.drewN k) r q m N L1 L2 := h.below (below_drewN (Below.refl _ _) k)
theorem Pr.less (h : Pr w0 g w r q m N L1 L2) : Pr w0 g w r q m (fun _ => False) L1 L2 := ⟨h.tg, h.rt, h.gr, h.far, fun _ hk => hk.elim⟩
/-- A block is made. -/
theorem Pr.add (h : Pr w0 g w r q m N L1 L2) {c : Nat} (hc : w.heap.size = c) (hb : Below c w w') (hlt : c < w'.heap.size) : Pr w0 g w' r q m (fun k => N k ∨ k = c) L1 L2 := by
  have h2 := h.below (hc.symm ▸ hb)
  refine ⟨h2.tg, h2.rt, h2.gr, h2.far, ?_⟩
  have h3 := h.tg.gw
  have h4 := h.rt.lt_p
  have h5 := h.rt.lt_q
  rintro k (hk | rfl)
  · exact h2.out k hk
  · exact ⟨hlt, by omega, fun e => by have := h.tg.tb.lt e; omega, by omega, by omega⟩
/-- A block of neither is written. -/
theorem Pr.turn (h : Pr w0 g w r q m N L1 L2) {b : Nat} (hb : N b) (ht : Turns b b w w') : Pr w0 g w' r q m N L1 L2 := by
  obtain ⟨h1, h2, h3, h4, h5⟩ := h.out b hb
  have hs : Stay (fun k => k = b) w w' := ⟨ht.os, ht.tape, ht.output, ht.size, fun k hk hl => ht.block k hk hk hl⟩
  exact ⟨⟨h.tg.tb.stay hs (fun k hk e => h3 (e ▸ hk)), h.tg.bel.trans (hs.below (fun k e => e ▸ h2) h.tg.gw), h.tg.sz, h.tg.own⟩,
    h.rt.stay hs (fun e => h4 e.symm) (fun e => h5 e.symm), h.gr, h.far, fun k hk => ⟨Nat.lt_of_lt_of_le (h.out k hk).1 hs.size, (h.out k hk).2⟩⟩
/-- The program's table has moved. -/
theorem Pr.setP (h : Pr w0 g w r q m N L1 L2) (hb : OdTo w g m L' w') : (∃ m', Pr w0 g w' r q m' N L' L2) ∧ ∀ k, N k → w'.heap[k]? = w.heap[k]? := by
  obtain ⟨m', h1, h2, h3⟩ := hb
  have hp := h.rt.lt_p
  have hq := h.rt.lt_q
  refine ⟨⟨m', ⟨h1, h.tg.bel.trans (h2.below h.tg.own h.tg.gw), h.tg.sz, fun k hk => (h3 k hk).elim (h.tg.own k) (Nat.le_trans h.tg.gw)⟩, h.rt.stay h2 h.far.1 h.far.2, h.gr, ⟨fun e => ?_, fun e => ?_⟩, fun k hk => ?_⟩, fun k hk => h2.block k (h.out k hk).2.2.1 (h.out k hk).1⟩
  · rcases h3 _ e with e | e
    · exact h.far.1 e
    · omega
  · rcases h3 _ e with e | e
    · exact h.far.2 e
    · omega
  · obtain ⟨a, b, c, d⟩ := h.out k hk
    refine ⟨Nat.lt_of_lt_of_le a h2.size, b, fun e => ?_, d⟩
    rcases h3 _ e with e | e
    · exact c e
    · omega
/-- The chapter's own has moved. -/
theorem Pr.setR (h : Pr w0 g w r q m N L1 L2) (hb : RtTo w r g q L' w') : (∃ q', Pr w0 g w' r q' m N L1 L') ∧ ∀ k, N k → w'.heap[k]? = w.heap[k]? := by
  obtain ⟨q', h1, h2, h3⟩ := hb
  refine ⟨⟨q', ⟨h.tg.tb.stay h2 (fun k hk e => h.far.1 (e ▸ hk)), h.tg.bel.trans (h2.below (fun k e => e ▸ h.gr) h.tg.gw), h.tg.sz, h.tg.own⟩, h1, h.gr, ⟨h.far.1, ?_⟩, fun k hk => ?_⟩, fun k hk => h2.block k (h.out k hk).2.2.2.1 (h.out k hk).1⟩
  · rcases h3 with rfl | rfl | e
    · exact h.far.1
    · exact h.far.2
    · exact fun e2 => by have := h.tg.tb.lt e2; omega
  · obtain ⟨a, b, c, d, e⟩ := h.out k hk
    refine ⟨Nat.lt_of_lt_of_le a h2.size, b, c, d, ?_⟩
    rcases h3 with rfl | rfl | e3
    · exact d
    · exact e
    · omega
end
theorem pr_new {w0 v1 v2 : World} {g r : Nat} {m : Nat → Value} {L1 L2 : List Ln} (ht : Tg w0 g v1 g m L1) (hr : v1.heap.size = r) (hrt : Rt v2 r g r L2) (hb : Below r v1 v2) : Pr w0 g v2 r r m (fun _ => False) L1 L2 :=
  ⟨ht.below (hr.symm ▸ hb), hrt, hr ▸ ht.gw, ⟨fun e => by have := ht.tb.lt e; omega, fun e => by have := ht.tb.lt e; omega⟩, fun _ hk => hk.elim⟩
theorem act_info : (Try.prog.info? 35).map (fun i => (i.zero, i.size)) = some (some (.agg #[.int .i64 0, .string ⟨#[]⟩, .int .u64 0, .int .u64 0, .int .i64 0, .int .i64 0, .int .i64 0, .bool false]), 8) := by kernel_rfl
theorem zero_act : (Try.prog.info? 35).bind (·.zero) = some (.agg #[.int .i64 0, .string ⟨#[]⟩, .int .u64 0, .int .u64 0, .int .i64 0, .int .i64 0, .int .i64 0, .bool false]) := by
  obtain ⟨i, h1, h2⟩ := Option.map_eq_some_iff.1 act_info
  simp only [Prod.mk.injEq] at h2
  simp [h1, h2.1]
theorem size_act12 : (Try.prog.info? 35).map (·.size) = some 8 := by
  obtain ⟨i, h1, h2⟩ := Option.map_eq_some_iff.1 act_info
  simp only [Prod.mk.injEq] at h2
  simp [h1, h2.2]
theorem ones8 (x0 : Int) (s : ByteArray) (x1 x2 x3 x4 x5 : Int) (b : Bool) : (#[.int .i64 x0, .string s, .int .u64 x1, .int .u64 x2, .int .i64 x3, .int .i64 x4, .int .i64 x5, .bool b] : Array Value).all (·.oneCell') = true := all_oneCell_toArray (fun u hu => by
  simp only [List.mem_cons, List.not_mem_nil, or_false] at hu
  rcases hu with rfl | rfl | rfl | rfl | rfl | rfl | rfl | rfl <;> rfl)
theorem cells8 {w : World} {g : Nat} {T : TypeId} {v0 v1 v2 v3 v4 v5 v6 v7 : Value} (h : w.heap[g]? = some (.cells #[v0, v1, v2, v3, v4, v5, v6, v7] T (0, 0))) : w.cell? ⟨g, 0, none⟩ = some v0 ∧ w.cell? ⟨g, 1, none⟩ = some v1 ∧ w.cell? ⟨g, 2, none⟩ = some v2 ∧ w.cell? ⟨g, 3, none⟩ = some v3 ∧ w.cell? ⟨g, 4, none⟩ = some v4 ∧ w.cell? ⟨g, 5, none⟩ = some v5 ∧ w.cell? ⟨g, 6, none⟩ = some v6 ∧ w.cell? ⟨g, 7, none⟩ = some v7 := by
  refine ⟨?_, ?_, ?_, ?_, ?_, ?_, ?_, ?_⟩ <;> simp [World.cell?, h]


end Go.Proofs.Ytfdifimakaiccaa
