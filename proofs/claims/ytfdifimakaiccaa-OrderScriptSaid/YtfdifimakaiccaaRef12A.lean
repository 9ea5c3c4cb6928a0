/-
  Proved here: chapter 12's own table in memory.
  Conditions: none.
-/
import Derived.Test.YtfdifimakaiccaaTabA
import Derived.Test.YtfdifimakaiccaaFind12
namespace Go.Proofs.Ytfdifimakaiccaa
open Go Go.RowKit
set_option maxRecDepth 100000

/-- The bag at p, whose entries lie in a row of its own, at or beyond lo, in block q (p where there is none). -/
structure Rt (w : World) (p lo q : Nat) (L : List Ln) : Prop where
  most : L.length ≤ 1048576
  mem : ∃ v, w.heap[p]? = some (.cells #[v] 30 (0, 0)) ∧ w.ownsRow lo 33 5 v L.length (encL L) ∧ v.ownBlock ≠ some p ∧ v.ownBlock.getD p = q
section
variable {w w' w1 : World} {p lo q : Nat} {L L' : List Ln}
theorem Rt.lt_p (h : Rt w p lo q L) : p < w.heap.size := by
  obtain ⟨v, hm, _⟩ := h.mem
  exact lt_of_heap hm
theorem Rt.lt_q (h : Rt w p lo q L) : q < w.heap.size := by
  obtain ⟨v, hm, ho, _, rfl⟩ := h.mem
  cases hv : v.ownBlock with
  | none => exact lt_of_heap hm
  | some k => exact (ho.lt k hv).2
theorem Rt.same (h : Rt w p lo q L) (hp : w'.heap[p]? = w.heap[p]?) (hq : w'.heap[q]? = w.heap[q]?) : Rt w' p lo q L := by
  obtain ⟨v, hm, ho, hne, rfl⟩ := h.mem
  refine ⟨h.most, v, hp.trans hm, ⟨ho.1, ho.2.imp id ?_⟩, hne, rfl⟩
  rintro ⟨g, cap, cur, rfl, h2, h3, h4⟩
  exact ⟨g, cap, cur, rfl, h2, Eq.trans hq h3, h4⟩
theorem Rt.below (h : Rt w p lo q L) (hb : Below w.heap.size w w') : Rt w' p lo q L := h.same (hb.block p h.lt_p) (hb.block q h.lt_q)
theorem Rt.drewN (h : Rt w p lo q L) (k : Nat) : Rt (w.drewN k) p lo q L := h.same rfl rfl
theorem Rt.frozen (h : Rt w p lo q L) : w.frozen? ⟨p, 0, none⟩ = false := by
  obtain ⟨v, hm, _⟩ := h.mem
  simp [World.frozen?, hm]
theorem Rt.reads (h : Rt w p lo q L) : ∃ A cap, L.length ≤ cap ∧ (A = none → L.length = 0 ∧ cap = 0) ∧ ∀ wx, Below w.heap.size w wx → wx.cell? ⟨p, 0, none⟩ = some (.slice A L.length cap) ∧ RowL wx A L := by
  obtain ⟨v, hm, ho, hne, _⟩ := h.mem
  obtain ⟨_, A, cap, rfl, h1, h2, h3, _⟩ := rowL_of_own ho (by have := h.most; omega)
  exact ⟨A, cap, h1, h3, fun wx hb => ⟨(hb.cell (p := ⟨p, 0, none⟩) h.lt_p).trans (by simp [World.cell?, hm]), h2.below hb⟩⟩
end
theorem Rt.fresh {w w1 : World} {p lo q : Nat} {L L' : List Ln} {v' : Value} (h : Rt w p lo q L) (hb : Below w.heap.size w w1) (ho : w1.ownsRow w.heap.size 33 5 v' L'.length (encL L')) (hl : L'.length ≤ 1048576) (hlo : lo ≤ w.heap.size) :
    ∃ q', Rt (w1.setCell ⟨p, 0, none⟩ v') p lo q' L' ∧ Stay (fun k => k = p) w (w1.setCell ⟨p, 0, none⟩ v') ∧ (q' = p ∨ w.heap.size ≤ q') := by
  obtain ⟨v, hm, _, hne, _⟩ := h.mem
  have hp : p < w.heap.size := lt_of_heap hm
  have hm1 : w1.heap[p]? = some (.cells #[v] 30 (0, 0)) := (hb.block p hp).trans hm
  have hge := own_ge ho
  have hne' : v'.ownBlock ≠ some p := fun e => by have := hge p e; omega
  refine ⟨v'.ownBlock.getD p, ⟨hl, v', ?_, ?_, hne', rfl⟩, ?_, ?_⟩
  · rw [heap_setCell_same w1 p 0 _ 30 _ hm1]
    simp
  · refine ⟨ho.1, ho.2.imp id ?_⟩
    rintro ⟨g, cap, cur, e, h2, h3, h4⟩
    refine ⟨g, cap, cur, e, Nat.le_trans hlo h2, ?_, h4⟩
    rw [Below.heap_setCell _ _ _ _ (by intro e2; exact hne' (by rw [e]; simp only [Value.ownBlock]; rw [e2]))]
    exact h3
  · refine ⟨hb.os, hb.tape, hb.output, by simpa [World.setCell] using hb.size, fun k h1 h3 => ?_⟩
    rw [Below.heap_setCell _ _ _ _ (by simpa using h1)]
    exact hb.block k h3
  · cases e : v'.ownBlock with
    | none => exact .inl rfl
    | some k => exact .inr (hge k e)
theorem Rt.stay {w w' : World} {S : Nat → Prop} {p lo q : Nat} {L : List Ln} (h : Rt w p lo q L) (hs : Stay S w w') (h1 : ¬ S p) (h2 : ¬ S q) : Rt w' p lo q L := h.same (hs.block p h1 h.lt_p) (hs.block q h2 h.lt_q)
/-- What a step of chapter 12's own table leaves. -/
def RtTo (w : World) (p lo q : Nat) (L : List Ln) (w' : World) : Prop := ∃ q', Rt w' p lo q' L ∧ Stay (fun k => k = p) w w' ∧ (q' = p ∨ q' = q ∨ w.heap.size ≤ q')
theorem rt_keep {w w' : World} {p lo q : Nat} {L : List Ln} (h : Rt w p lo q L) (hb : Below w.heap.size w w') : RtTo w p lo q L w' := ⟨q, h.below hb, Stay.of_below hb, .inr (.inl rfl)⟩
theorem rt_new (w : World) (g : Nat) : Rt (w.alloc (.cells #[.slice none 0 0] 30)) w.heap.size g w.heap.size [] :=
  ⟨by simp, .slice none 0 0, heap_alloc_new w _, World.ownsRow_nil _ _ _ _, by simp [Value.ownBlock], rfl⟩
theorem str_eq12 (x y : ByteArray) : (x.toList == y.toList) = (x.data.toList == y.data.toList) := by
  rw [Lib.toList_data, Lib.toList_data]

end Go.Proofs.Ytfdifimakaiccaa
