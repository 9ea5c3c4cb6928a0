/-
  Proved here: a clock and chapter 8's own beside one another.
  Conditions: none.
-/
import Derived.Test.YthkiollggmeflaaAlike8
import Derived.Test.YthkiollggmeflaaActs8
namespace Go.Proofs.Ythkiollggmeflaa
open Go Go.RowKit

/-- A clock and chapter 8's own beside one another, behind a world w0. -/
structure Tw (w0 : World) (g : Nat) (w : World) (p q r s : Nat) (L : List Nat) (now : Nat) (M : List Nat) (then_ : Nat) : Prop where
  rp : RdP w p q L now
  rr : RdR w r s M then_
  bel : Below g w0 w
  sz : w0.heap.size = g
  gp : g ≤ p
  gq : g ≤ q
  gr : g ≤ r
  gs : g ≤ s
  pr : p < r ∧ p < s
  qr : q < r ∧ q < s
variable {w0 w w' : World} {g p q r s : Nat} {L M K : List Nat} {now m k : Nat}
theorem Tw.gw (h : Tw w0 g w p q r s L now M m) : g ≤ w.heap.size := by have := h.bel.size; have := h.sz; omega
theorem Tw.p_step (h : Tw w0 g w p q r s L now M m) (hp : RdP w' p q K k) (ht : Turns p q w w') : Tw w0 g w' p q r s K k M m :=
  ⟨hp, h.rr.turns ht (by have := h.pr; omega) (by have := h.qr; omega) (by have := h.pr; omega) (by have := h.qr; omega), h.bel.trans (ht.below h.gp h.gq h.gw), h.sz, h.gp, h.gq, h.gr, h.gs, h.pr, h.qr⟩
theorem Tw.r_step (h : Tw w0 g w p q r s L now M m) (hr : RdR w' r s K k) (ht : Turns r s w w') : Tw w0 g w' p q r s L now K k :=
  ⟨h.rp.turns ht (by have := h.pr; omega) (by have := h.pr; omega) (by have := h.qr; omega) (by have := h.qr; omega), hr, h.bel.trans (ht.below h.gr h.gs h.gw), h.sz, h.gp, h.gq, h.gr, h.gs, h.pr, h.qr⟩
theorem Tw.drewN (h : Tw w0 g w p q r s L now M m) (n : Nat) : Tw w0 g (w.drewN n) p q r s L now M m :=
  ⟨h.rp.drewN n, h.rr.drewN n, below_drewN h.bel n, h.sz, h.gp, h.gq, h.gr, h.gs, h.pr, h.qr⟩
theorem tw_new {w1 w2 : World} {n : Nat} (hz : w0.heap.size = g) (hp : g ≤ p) (hq : g ≤ q) (hpl : RdP w1 p q (List.replicate n 0) 1) (hb1 : Below g w0 w1) (hr0 : w1.heap.size ≤ r) (hs0 : w1.heap.size ≤ s) (hr : RdR w2 r s (List.replicate n 0) 1) (hb2 : Below w1.heap.size w1 w2) :
    Tw w0 g w2 p q r s (List.replicate n 0) 1 (List.replicate n 0) 1 :=
  ⟨hpl.below hb2, hr, hb1.trans (hb2.mono (by have := hb1.size; omega)), hz, hp, hq, by have := hb1.size; omega, by have := hb1.size; omega, by have := hpl.lt_p; omega, by have := hpl.lt_q; omega⟩
theorem u64_nat (x : Int) (h : (Lit.int .u64 x).wf = true) : ∃ n : Nat, x = n ∧ n < 18446744073709551616 := by
  have h1 : 0 ≤ x ∧ x < 18446744073709551616 := by
    simp [Lit.wf, IntKind.min, IntKind.max, IntKind.signed, IntKind.bits] at h
    omega
  obtain ⟨n, rfl⟩ := Int.eq_ofNat_of_zero_le h1.1
  exact ⟨n, rfl, by omega⟩

end Go.Proofs.Ythkiollggmeflaa
