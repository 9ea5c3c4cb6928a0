/-
  Proved here: a bag, chapter 10's own, a clock and chapter 8's own beside one another.
  Conditions: none.
-/
import Derived.Test.YtfonjkbdonbjdaaActs10
import Derived.Test.YtfonjkbdonbjdaaRef10C
import Derived.Test.YtfonjkbdonbjdaaRef8
namespace Go.Proofs.Ytfonjkbdonbjdaa
open Go Go.RowKit

/-- A bag, chapter 10's own, a clock, chapter 8's own, beside one another, behind a world w0 of g blocks. -/
structure Fo (w0 : World) (g : Nat) (w : World) (p q r s a b c d : Nat) (L K : List En) (R : List Nat) (now : Nat) (S : List Nat) (m : Nat) : Prop where
  bg : BgP w p g q L
  rb : RbP w r g s K
  rd : RdP w a b R now
  rr : RdR w c d S m
  bel : Below g w0 w
  sz : w0.heap.size = g
  ge : g ≤ p ∧ g ≤ q ∧ g ≤ r ∧ g ≤ s ∧ g ≤ a ∧ g ≤ b ∧ g ≤ c ∧ g ≤ d
  d1 : Dis p q r s
  d2 : Dis p q a b
  d3 : Dis p q c d
  d4 : Dis r s a b
  d5 : Dis r s c d
  d6 : Dis a b c d
section
variable {w0 w w' : World} {g p q r s a b c d now now' m m' : Nat} {L L' K K' : List En} {R R' S S' : List Nat}
theorem Fo.gw (h : Fo w0 g w p q r s a b c d L K R now S m) : g ≤ w.heap.size := by have := h.bel.size; have := h.sz; omega
theorem Fo.below (h : Fo w0 g w p q r s a b c d L K R now S m) (hb : Below w.heap.size w w') : Fo w0 g w' p q r s a b c d L K R now S m :=
  ⟨h.bg.below hb, h.rb.below hb, h.rd.below hb, h.rr.below hb, h.bel.trans (hb.mono h.gw), h.sz, h.ge, h.d1, h.d2, h.d3, h.d4, h.d5, h.d6⟩
theorem Fo.drewN (h : Fo w0 g w p q r s a b c d L K R now S m) (k : Nat) : Fo w0 g (w.drewN k) p q r s a b c d L K R now S m :=
  ⟨h.bg.drewN k, h.rb.drewN k, h.rd.drewN k, h.rr.drewN k, below_drewN h.bel k, h.sz, h.ge, h.d1, h.d2, h.d3, h.d4, h.d5, h.d6⟩
theorem Fo.bagTo (h : Fo w0 g w p q r s a b c d L K R now S m) (hb : BgTo w p g q L' w') : ∃ q', Fo w0 g w' p q' r s a b c d L' K R now S m := by
  obtain ⟨q', h1, h2, h3⟩ := hb
  obtain ⟨g1, g2, g3, g4, g5, g6, g7, g8⟩ := h.ge
  have hgw := h.gw
  refine ⟨q', h1, h.rb.turns h2 h.d1.1.symm h.d1.2.2.1.symm h.d1.2.1.symm h.d1.2.2.2.symm, h.rd.turns h2 h.d2.1.symm h.d2.2.2.1.symm h.d2.2.1.symm h.d2.2.2.2.symm, h.rr.turns h2 h.d3.1.symm h.d3.2.2.1.symm h.d3.2.1.symm h.d3.2.2.2.symm, h.bel.trans (h2.below g1 g2 hgw), h.sz, ⟨g1, ?_, g3, g4, g5, g6, g7, g8⟩, h.d1.moved (.inr h3) h.rb.lt_p h.rb.lt_q, h.d2.moved (.inr h3) h.rd.lt_p h.rd.lt_q, h.d3.moved (.inr h3) h.rr.lt_p h.rr.lt_q, h.d4, h.d5, h.d6⟩
  rcases h3 with e | e
  · rw [e]; exact g2
  · omega
theorem Fo.bagPop (h : Fo w0 g w p q r s a b c d L K R now S m) (hb : BgP w' p g q L') (h2 : Turns p q w w') : Fo w0 g w' p q r s a b c d L' K R now S m := by
  obtain ⟨g1, g2, g3, g4, g5, g6, g7, g8⟩ := h.ge
  exact ⟨hb, h.rb.turns h2 h.d1.1.symm h.d1.2.2.1.symm h.d1.2.1.symm h.d1.2.2.2.symm, h.rd.turns h2 h.d2.1.symm h.d2.2.2.1.symm h.d2.2.1.symm h.d2.2.2.2.symm, h.rr.turns h2 h.d3.1.symm h.d3.2.2.1.symm h.d3.2.1.symm h.d3.2.2.2.symm, h.bel.trans (h2.below g1 g2 h.gw), h.sz, ⟨g1, g2, g3, g4, g5, g6, g7, g8⟩, h.d1, h.d2, h.d3, h.d4, h.d5, h.d6⟩
theorem Fo.refTo (h : Fo w0 g w p q r s a b c d L K R now S m) (hb : RbTo w r g s K' w') : ∃ s', Fo w0 g w' p q r s' a b c d L K' R now S m := by
  obtain ⟨s', h1, h2, h3⟩ := hb
  obtain ⟨g1, g2, g3, g4, g5, g6, g7, g8⟩ := h.ge
  have hgw := h.gw
  refine ⟨s', h.bg.turns h2 h.d1.1 h.d1.1 h.d1.2.2.1 h.d1.2.2.1, h1, h.rd.turns h2 h.d4.1.symm h.d4.1.symm h.d4.2.1.symm h.d4.2.1.symm, h.rr.turns h2 h.d5.1.symm h.d5.1.symm h.d5.2.1.symm h.d5.2.1.symm, h.bel.trans (h2.below g3 g3 hgw), h.sz, ⟨g1, g2, g3, ?_, g5, g6, g7, g8⟩, (h.d1.sym.moved h3 h.bg.lt_p h.bg.lt_q).sym, h.d2, h.d3, h.d4.moved h3 h.rd.lt_p h.rd.lt_q, h.d5.moved h3 h.rr.lt_p h.rr.lt_q, h.d6⟩
  rcases h3 with e | e | e
  · rw [e]; exact g3
  · rw [e]; exact g4
  · omega
theorem Fo.clk (h : Fo w0 g w p q r s a b c d L K R now S m) (hr : RdP w' a b R' now') (h2 : Turns a b w w') : Fo w0 g w' p q r s a b c d L K R' now' S m := by
  obtain ⟨g1, g2, g3, g4, g5, g6, g7, g8⟩ := h.ge
  exact ⟨h.bg.turns h2 h.d2.1 h.d2.2.1 h.d2.2.2.1 h.d2.2.2.2, h.rb.turns h2 h.d4.1 h.d4.2.1 h.d4.2.2.1 h.d4.2.2.2, hr, h.rr.turns h2 h.d6.1.symm h.d6.2.2.1.symm h.d6.2.1.symm h.d6.2.2.2.symm, h.bel.trans (h2.below g5 g6 h.gw), h.sz, h.ge, h.d1, h.d2, h.d3, h.d4, h.d5, h.d6⟩
theorem Fo.rclk (h : Fo w0 g w p q r s a b c d L K R now S m) (hr : RdR w' c d S' m') (h2 : Turns c d w w') : Fo w0 g w' p q r s a b c d L K R now S' m' := by
  obtain ⟨g1, g2, g3, g4, g5, g6, g7, g8⟩ := h.ge
  exact ⟨h.bg.turns h2 h.d3.1 h.d3.2.1 h.d3.2.2.1 h.d3.2.2.2, h.rb.turns h2 h.d5.1 h.d5.2.1 h.d5.2.2.1 h.d5.2.2.2, h.rd.turns h2 h.d6.1 h.d6.2.1 h.d6.2.2.1 h.d6.2.2.2, hr, h.bel.trans (h2.below g7 g8 h.gw), h.sz, h.ge, h.d1, h.d2, h.d3, h.d4, h.d5, h.d6⟩
end
theorem fo_new {w0 w1 w2 w3 w4 : World} {g p r a b c d : Nat} {n : Nat} (hz : w0.heap.size = g) (hb : BgP w1 p g p []) (hp : g ≤ p) (hbel : Below g w0 w1)
    (hr0 : w1.heap.size ≤ r) (hrb : RbP w2 r g r []) (hb2 : Below w1.heap.size w1 w2)
    (ha : w2.heap.size ≤ a) (hb' : w2.heap.size ≤ b) (hrd : RdP w3 a b (List.replicate n 0) 1) (hb3 : Below w2.heap.size w2 w3)
    (hc : w3.heap.size ≤ c) (hd : w3.heap.size ≤ d) (hrr : RdR w4 c d (List.replicate n 0) 1) (hb4 : Below w3.heap.size w3 w4) :
    Fo w0 g w4 p p r r a b c d [] [] (List.replicate n 0) 1 (List.replicate n 0) 1 := by
  have l1 := hb.lt_p
  have l2 := hrb.lt_p
  have l3 := hrd.lt_p
  have l4 := hrd.lt_q
  have s1 := hbel.size
  have s2 := hb2.size
  have s3 := hb3.size
  have s4 := hb4.size
  refine ⟨hb.below (hb2.trans ((hb3.mono s2).trans (hb4.mono (by omega)))), hrb.below (hb3.trans (hb4.mono s3)), hrd.below hb4, hrr, hbel.trans ((hb2.mono (by omega)).trans ((hb3.mono (by omega)).trans (hb4.mono (by omega)))), hz, ⟨hp, hp, by omega, by omega, by omega, by omega, by omega, by omega⟩, ?_, ?_, ?_, ?_, ?_, ?_⟩
  all_goals exact ⟨by omega, by omega, by omega, by omega⟩
/-- A new bag of chapter 10's own. -/
theorem rb_new (w : World) (g : Nat) : RbP (w.alloc (.cells #[.slice none 0 0] 29)) w.heap.size g w.heap.size [] :=
  ⟨by simp, .slice none 0 0, heap_alloc_new w _, World.ownsRow_nil _ _ _ _, by simp [Value.ownBlock], rfl⟩

end Go.Proofs.Ytfonjkbdonbjdaa
