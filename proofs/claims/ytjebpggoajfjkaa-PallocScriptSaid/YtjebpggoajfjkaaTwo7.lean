/-
  Proved here: a pool and chapter 7's own beside one another, and an act in a variable of its own.
  Conditions: none.
-/
import Derived.Test.YtjebpggoajfjkaaAlike7
import Derived.Deep.RegionHeld3
namespace Go.Proofs.Ytjebpggoajfjkaa
open Go Go.RowKit

/-- A pool and chapter 7's own beside one another, behind a world w0. -/
structure Two (w0 : World) (g : Nat) (w : World) (p q r n : Nat) (M N : List Tk) : Prop where
  pl : PlP w p q n M
  rf : Rf w r (r + 1) n N
  bel : Below g w0 w
  sz : w0.heap.size = g
  gp : g ≤ p
  gq : g ≤ q
  pr : p < r
  qr : q < r
variable {w0 w w' : World} {g p q r n b : Nat} {M N K : List Tk}
theorem Two.gw (h : Two w0 g w p q r n M N) : g ≤ w.heap.size := by have := h.bel.size; have := h.sz; omega
theorem Two.p_step (h : Two w0 g w p q r n M N) (hp : PlP w' p q n K) (ht : Turns p q w w') : Two w0 g w' p q r n K N :=
  ⟨hp, h.rf.turns ht (by have := h.pr; omega) (by have := h.qr; omega) (by have := h.pr; omega) (by have := h.qr; omega), h.bel.trans (ht.below h.gp h.gq h.gw), h.sz, h.gp, h.gq, h.pr, h.qr⟩
theorem Two.r_step (h : Two w0 g w p q r n M N) (hr : Rf w' r (r + 1) n K) (ht : Turns r r w w') : Two w0 g w' p q r n M K :=
  ⟨h.pl.turns ht (by have := h.pr; omega) (by have := h.pr; omega) (by have := h.qr; omega) (by have := h.qr; omega), hr, h.bel.trans (ht.below (by have := h.gp; have := h.pr; omega) (by have := h.gp; have := h.pr; omega) h.gw), h.sz, h.gp, h.gq, h.pr, h.qr⟩
theorem Two.b_step (h : Two w0 g w p q r n M N) (hb : Below w.heap.size w w') : Two w0 g w' p q r n M N :=
  ⟨h.pl.below hb, h.rf.below hb, h.bel.trans (hb.mono h.gw), h.sz, h.gp, h.gq, h.pr, h.qr⟩
theorem Two.drew (h : Two w0 g w p q r n M N) : Two w0 g w.drew p q r n M N := h.b_step (Below.refl _ _).drew
theorem Two.drewN (h : Two w0 g w p q r n M N) (m : Nat) : Two w0 g (w.drewN m) p q r n M N := h.b_step (below_drewN (Below.refl _ _) m)
/-- An act in a variable of its own, beside both pools. -/
structure Bx (w : World) (p q r b : Nat) (x : ActP) : Prop where
  np : b ≠ p
  nq : b ≠ q
  nr : b ≠ r
  cells : w.heap[b]? = some (.cells #[.int .i64 x.kd, .int .i64 x.line, .int .i64 x.cl] 33 (0, 0))
variable {x : ActP}
theorem Bx.lt (h : Bx w p q r b x) : b < w.heap.size := lt_of_heap h.cells
theorem Bx.c0 (h : Bx w p q r b x) : w.cell? ⟨b, 0, none⟩ = some (.int .i64 x.kd) := by simp [World.cell?, h.cells]
theorem Bx.c1 (h : Bx w p q r b x) : w.cell? ⟨b, 1, none⟩ = some (.int .i64 x.line) := by simp [World.cell?, h.cells]
theorem Bx.c2 (h : Bx w p q r b x) : w.cell? ⟨b, 2, none⟩ = some (.int .i64 x.cl) := by simp [World.cell?, h.cells]
theorem Bx.p_step (h : Bx w p q r b x) (ht : Turns p q w w') : Bx w' p q r b x := ⟨h.np, h.nq, h.nr, (ht.block b h.np h.nq h.lt).trans h.cells⟩
theorem Bx.r_step (h : Bx w p q r b x) (ht : Turns r r w w') : Bx w' p q r b x := ⟨h.np, h.nq, h.nr, (ht.block b h.nr h.nr h.lt).trans h.cells⟩
theorem Bx.b_step (h : Bx w p q r b x) (hb : Below w.heap.size w w') : Bx w' p q r b x := ⟨h.np, h.nq, h.nr, (hb.block b h.lt).trans h.cells⟩
theorem bx_new (h : Two w0 g w p q r n M N) (hc : w'.heap[w.heap.size]? = some (.cells #[.int .i64 x.kd, .int .i64 x.line, .int .i64 x.cl] 33 (0, 0))) : Bx w' p q r w.heap.size x := by
  have h1 := h.pl.lt_p
  have h2 := h.pl.lt_q
  have h3 : r < w.heap.size := by have := h.rf.lt; have := h.rf.le; omega
  exact ⟨by omega, by omega, by omega, hc⟩
theorem zero_act : (Try.prog.info? 33).bind (·.zero) = some (.agg #[.int .i64 0, .int .i64 0, .int .i64 0]) := by kernel_rfl
theorem size_act : (Try.prog.info? 33).map (·.size) = some 3 := by kernel_rfl
theorem two_new {w0 w1 w2 : World} {g p q n : Nat} (hz : w0.heap.size = g) (hp : g ≤ p) (hq : g ≤ q) (hpl : PlP w1 p q n []) (hb1 : Below g w0 w1) (hr : Rf w2 w1.heap.size (w1.heap.size + 1) n []) (hb2 : Below w1.heap.size w1 w2) : Two w0 g w2 p q w1.heap.size n [] [] :=
  ⟨hpl.below hb2, hr, hb1.trans (hb2.mono (by have := hb1.size; omega)), hz, hp, hq, hpl.lt_p, hpl.lt_q⟩

end Go.Proofs.Ytjebpggoajfjkaa
