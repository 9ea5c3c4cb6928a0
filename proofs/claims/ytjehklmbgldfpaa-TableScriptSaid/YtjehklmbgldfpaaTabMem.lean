/-
  Proved here: how a table of links lies in memory.
  Conditions: none.
-/
import Derived.Test.YtjehklmbgldfpaaLinkMem
import Derived.Test.YtjehklmbgldfpaaPlace11
import Derived.Test.YtjehklmbgldfpaaNvmMath
namespace Go.Proofs.Ytjehklmbgldfpaa
open Go Go.RowKit
set_option maxRecDepth 100000

/-! ### What the world has turned -/
/-- But for the blocks of which S holds all that was there is as it was. -/
structure Stay (S : Nat → Prop) (w w' : World) : Prop where
  os : w'.os = w.os
  tape : w'.tape = w.tape
  output : w'.output = w.output
  size : w.heap.size ≤ w'.heap.size
  block : ∀ k, ¬ S k → k < w.heap.size → w'.heap[k]? = w.heap[k]?
section
variable {S S' : Nat → Prop} {a b c w w' : World}
theorem Stay.refl (S : Nat → Prop) (w : World) : Stay S w w := ⟨rfl, rfl, rfl, Nat.le_refl _, fun _ _ _ => rfl⟩
theorem Stay.trans (h : Stay S a b) (k : Stay S b c) : Stay S a c :=
  ⟨k.os.trans h.os, k.tape.trans h.tape, k.output.trans h.output, Nat.le_trans h.size k.size, fun i h1 hi => (k.block i h1 (Nat.lt_of_lt_of_le hi h.size)).trans (h.block i h1 hi)⟩
theorem Stay.of_below (h : Below w.heap.size w w') : Stay S w w' := ⟨h.os, h.tape, h.output, h.size, fun k _ hk => h.block k hk⟩
theorem Stay.below (h : Stay S w w') {g : Nat} (hg : ∀ k, S k → g ≤ k) (hgw : g ≤ w.heap.size) : Below g w w' :=
  ⟨h.os, h.tape, h.output, h.size, fun k hk => h.block k (fun hs => by have := hg k hs; omega) (by omega)⟩
theorem Stay.mono (h : Stay S w w') (hs : ∀ k, k < w.heap.size → S k → S' k) : Stay S' w w' :=
  ⟨h.os, h.tape, h.output, h.size, fun k hk hl => h.block k (fun x => hk (hs k hl x)) hl⟩
/-- A step that turns what is new alone, behind one that turns S. -/
theorem Stay.new (h : Stay S a b) (k : Stay S' b c) (hs : ∀ i, S' i → S i ∨ a.heap.size ≤ i) : Stay S a c :=
  ⟨k.os.trans h.os, k.tape.trans h.tape, k.output.trans h.output, Nat.le_trans h.size k.size, fun i h1 hi =>
    (k.block i (fun x => by rcases hs i x with h2 | h2; exact h1 h2; omega) (Nat.lt_of_lt_of_le hi h.size)).trans (h.block i h1 hi)⟩
theorem Stay.grown {b' : Nat} (h : w.grownBy w' (some b')) (hs : S b') : Stay S w w' :=
  ⟨h.os, h.tape, h.output, h.size, fun k hk hl => h.block k hl (fun e => hk (by cases e; exact hs))⟩
theorem Stay.setCell (w : World) (p j : Nat) (u : Value) (hs : S p) : Stay S w (w.setCell ⟨p, j, none⟩ u) :=
  ⟨rfl, rfl, rfl, by simp [World.setCell], fun k hk _ => Below.heap_setCell _ _ _ _ (fun e => hk (by rw [show k = p from e]; exact hs))⟩
theorem Stay.drewN (h : Stay S a w) (k : Nat) : Stay S a (w.drewN k) := ⟨h.os, h.tape, h.output, h.size, h.block⟩
end

/-! ### The table in memory -/
/-- The bucket of a key. -/
def bkt (k : Ky) : Nat := addS 0 k % 8
theorem bkt_lt (k : Ky) : bkt k < 8 := Nat.mod_lt _ (by omega)
def mcells (m : Nat → Option Nat) : List Value := (List.range 8).map fun i => .map (m i)
theorem mcells_at (m : Nat → Option Nat) {i : Nat} (h : i < 8) : (mcells m)[i]? = some (.map (m i)) := by simp [mcells, h]
theorem mcells_set (m : Nat → Option Nat) {i : Nat} (h : i < 8) (b : Option Nat) : (mcells m).set i (.map b) = mcells fun j => if j = i then b else m j := by
  apply List.ext_getElem?
  intro j
  rw [List.getElem?_set]
  split
  · rename_i e
    subst e
    rw [if_pos (by simp [mcells]; exact h), mcells_at _ h]
    simp
  · rename_i e
    rcases Nat.lt_or_ge j 8 with hj | hj
    · rw [mcells_at _ hj, mcells_at _ hj, if_neg (fun x => e x.symm)]
    · rw [List.getElem?_eq_none (by simp [mcells]; exact hj), List.getElem?_eq_none (by simp [mcells]; exact hj)]
/-- The table at p, whose map of bucket i is block m i, where there is one; its links are L. -/
structure Tb (w : World) (p : Nat) (m : Nat → Option Nat) (L : List Ln) : Prop where
  rises : RisesK L
  keys : ∀ x ∈ L, x.k.length ≤ 1073741824
  mem : w.heap[p]? = some (.cells (mcells m).toArray 51 (0, 0))
  none_ : ∀ i, i < 8 → m i = none → partT bkt L i = []
  some_ : ∀ i b, i < 8 → m i = some b → MapL w b (partT bkt L i)
  apart : ∀ i j b, i < 8 → j < 8 → m i = some b → m j = some b → i = j
/-- The table's own blocks. -/
def tbOwn (p : Nat) (m : Nat → Option Nat) (k : Nat) : Prop := k = p ∨ ∃ i, i < 8 ∧ m i = some k
section
variable {w w' : World} {p : Nat} {m : Nat → Option Nat} {L L' : List Ln}
theorem Tb.lt (h : Tb w p m L) {k : Nat} (hk : tbOwn p m k) : k < w.heap.size := by
  rcases hk with rfl | ⟨i, hi, e⟩
  · exact lt_of_heap h.mem
  · exact (h.some_ i k hi e).lt
theorem Tb.stay {S : Nat → Prop} (h : Tb w p m L) (hs : Stay S w w') (hn : ∀ k, tbOwn p m k → ¬ S k) : Tb w' p m L :=
  ⟨h.rises, h.keys, (hs.block p (hn p (.inl rfl)) (h.lt (.inl rfl))).trans h.mem, h.none_, fun i b hi e => (h.some_ i b hi e).stay (hs.block b (hn b (.inr ⟨i, hi, e⟩)) (h.lt (.inr ⟨i, hi, e⟩))), h.apart⟩
theorem Tb.below (h : Tb w p m L) (hb : Below w.heap.size w w') : Tb w' p m L := h.stay (S := fun _ => False) (Stay.of_below hb) (fun _ _ => id)
theorem Tb.drewN (h : Tb w p m L) (k : Nat) : Tb (w.drewN k) p m L := h.below (below_drewN (Below.refl _ _) k)
theorem Tb.cell (h : Tb w p m L) {i : Nat} (hi : i < 8) : w.cell? ⟨p, i, none⟩ = some (.map (m i)) := by
  have := mcells_at m hi
  simp [World.cell?, h.mem, this]
theorem Tb.frozen (h : Tb w p m L) (i : Nat) : w.frozen? ⟨p, i, none⟩ = false := by simp [World.frozen?, h.mem]
end
theorem tb_new (w : World) : Tb (w.alloc (.cells #[.map none, .map none, .map none, .map none, .map none, .map none, .map none, .map none] 51)) w.heap.size (fun _ => none) [] :=
  ⟨risesK_nil, fun _ h => (by cases h), heap_alloc_new w _, fun _ _ _ => rfl, fun _ _ _ h => (by cases h), fun _ _ _ _ _ h => (by cases h)⟩
/-- What a step of a table leaves. -/
def TbTo (w : World) (p : Nat) (m : Nat → Option Nat) (L : List Ln) (w' : World) : Prop :=
  ∃ m', Tb w' p m' L ∧ Stay (tbOwn p m) w w' ∧ ∀ k, tbOwn p m' k → tbOwn p m k ∨ w.heap.size ≤ k

end Go.Proofs.Ytjehklmbgldfpaa
