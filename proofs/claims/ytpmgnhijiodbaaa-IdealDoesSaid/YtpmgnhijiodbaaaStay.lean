/-
  Proved here: what stays of a world of which some blocks are turned.
  Conditions: none.
-/
import Derived.Test.YtpmgnhijiodbaaaNvmMath
namespace Go.Proofs.Ytpmgnhijiodbaaa
open Go Go.RowKit
set_option maxRecDepth 100000

/-! ### What the world has turned -/
/-- But for the blocks of which S holds all that was there is as it was. -/
structure Stay (S : Nat → Prop) (w w' : World) : Prop where
  os : w'.os = w.os
  tape : w'.tape = w.tape
  output : w'.output = w.output
  size : w.heap.size ≤ w'.heap.size
  block : ∀ k, ¬ S k → k < w.heap.size → w'.heap[k]? = w.heap[k]?
section
variable {S S' : Nat → Prop} {a b c w w' : World}
theorem Stay.refl (S : Nat → Prop) (w : World) : Stay S w w := ⟨rfl, rfl, rfl, Nat.le_refl _, fun _ _ _ => rfl⟩
theorem Stay.trans (h : Stay S a b) (k : Stay S b c) : Stay S a c :=
  ⟨k.os.trans h.os, k.tape.trans h.tape, k.output.trans h.output, Nat.le_trans h.size k.size, fun i h1 hi => (k.block i h1 (Nat.lt_of_lt_of_le hi h.size)).trans (h.block i h1 hi)⟩
theorem Stay.of_below (h : Below w.heap.size w w') : Stay S w w' := ⟨h.os, h.tape, h.output, h.size, fun k _ hk => h.block k hk⟩
theorem Stay.below (h : Stay S w w') {g : Nat} (hg : ∀ k, S k → g ≤ k) (hgw : g ≤ w.heap.size) : Below g w w' :=
  ⟨h.os, h.tape, h.output, h.size, fun k hk => h.block k (fun hs => by have := hg k hs; omega) (by omega)⟩
theorem Stay.mono (h : Stay S w w') (hs : ∀ k, k < w.heap.size → S k → S' k) : Stay S' w w' :=
  ⟨h.os, h.tape, h.output, h.size, fun k hk hl => h.block k (fun x => hk (hs k hl x)) hl⟩
/-- A step that turns what is new alone, behind one that turns S. -/
theorem Stay.new (h : Stay S a b) (k : Stay S' b c) (hs : ∀ i, S' i → S i ∨ a.heap.size ≤ i) : Stay S a c :=
  ⟨k.os.trans h.os, k.tape.trans h.tape, k.output.trans h.output, Nat.le_trans h.size k.size, fun i h1 hi =>
    (k.block i (fun x => by rcases hs i x with h2 | h2; exact h1 h2; omega) (Nat.lt_of_lt_of_le hi h.size)).trans (h.block i h1 hi)⟩
theorem Stay.grown {b' : Nat} (h : w.grownBy w' (some b')) (hs : S b') : Stay S w w' :=
  ⟨h.os, h.tape, h.output, h.size, fun k hk hl => h.block k hl (fun e => hk (by cases e; exact hs))⟩
theorem Stay.setCell (w : World) (p j : Nat) (u : Value) (hs : S p) : Stay S w (w.setCell ⟨p, j, none⟩ u) :=
  ⟨rfl, rfl, rfl, by simp [World.setCell], fun k hk _ => Below.heap_setCell _ _ _ _ (fun e => hk (by rw [show k = p from e]; exact hs))⟩
theorem Stay.drewN (h : Stay S a w) (k : Nat) : Stay S a (w.drewN k) := ⟨h.os, h.tape, h.output, h.size, h.block⟩
end


end Go.Proofs.Ytpmgnhijiodbaaa
