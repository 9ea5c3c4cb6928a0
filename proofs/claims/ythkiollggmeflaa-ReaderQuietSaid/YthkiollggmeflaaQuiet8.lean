/-
  Proved here: a clock of four threads beside an array that tells who announced the first epoch.
  Conditions: none.
-/
import Derived.Test.YthkiollggmeflaaTwo8
namespace Go.Proofs.Ythkiollggmeflaa
open Go Go.RowKit

/-- Who announced 1. -/
def onesB (L : List Nat) : List Value := L.map fun x => .bool (x == 1)
theorem onesB_at (L : List Nat) (i : Nat) (h : i < L.length) : (onesB L)[i]? = some (.bool (L.getD i 0 == 1)) := by simp [onesB, List.getElem?_eq_getElem h, List.getD]
theorem onesB_set (L : List Nat) (i x : Nat) : (onesB L).set i (.bool (x == 1)) = onesB (L.set i x) := by simp [onesB, List.map_set]
/-- A clock of four beside an array that tells who announced 1, behind a world w0. -/
structure Qt (w0 : World) (g : Nat) (w : World) (p q a : Nat) (L : List Nat) (now : Nat) : Prop where
  rp : RdP w p q L now
  bl : w.heap[a]? = some (.cells (onesB L).toArray 44 (0, 0))
  len : L.length = 4
  bel : Below g w0 w
  sz : w0.heap.size = g
  gp : g ≤ p
  gq : g ≤ q
  ga : g ≤ a
  np : a ≠ p
  nq : a ≠ q
variable {w0 w w' : World} {g p q a : Nat} {L : List Nat} {now : Nat}
theorem Qt.gw (h : Qt w0 g w p q a L now) : g ≤ w.heap.size := by have := h.bel.size; have := h.sz; omega
theorem Qt.lt (h : Qt w0 g w p q a L now) : a < w.heap.size := lt_of_heap h.bl
theorem Qt.cell (h : Qt w0 g w p q a L now) {t : Nat} (ht : t < 4) : w.cell? ⟨a, t, none⟩ = some (.bool (L.getD t 0 == 1)) := by
  rw [← onesB_at L t (by have := h.len; omega)]
  simp [World.cell?, h.bl]
theorem Qt.frozen (h : Qt w0 g w p q a L now) (t : Nat) : w.frozen? ⟨a, t, none⟩ = false := by simp [World.frozen?, h.bl]
theorem Qt.mid (h : Qt w0 g w p q a L now) (ht : Turns p q w w') : w'.heap[a]? = some (.cells (onesB L).toArray 44 (0, 0)) := (ht.block a h.np h.nq h.lt).trans h.bl
theorem Qt.cell' (h : Qt w0 g w p q a L now) (hh : Turns p q w w') {t : Nat} (ht : t < 4) : w'.cell? ⟨a, t, none⟩ = some (.bool (L.getD t 0 == 1)) := by
  rw [← onesB_at L t (by have := h.len; omega)]
  simp [World.cell?, h.mid hh]
theorem Qt.frozen' (h : Qt w0 g w p q a L now) (hh : Turns p q w w') (t : Nat) : w'.frozen? ⟨a, t, none⟩ = false := by simp [World.frozen?, h.mid hh]
theorem Qt.drewN (h : Qt w0 g w p q a L now) (n : Nat) : Qt w0 g (w.drewN n) p q a L now := ⟨h.rp.drewN n, h.bl, h.len, below_drewN h.bel n, h.sz, h.gp, h.gq, h.ga, h.np, h.nq⟩
/-- A step of the clock that leaves who announced 1. -/
theorem Qt.step (h : Qt w0 g w p q a L now) {K : List Nat} {m : Nat} (hp : RdP w' p q K m) (ht : Turns p q w w') (hl : K.length = L.length) (ho : onesB K = onesB L) : Qt w0 g w' p q a K m :=
  ⟨hp, by rw [ho]; exact h.mid ht, by rw [hl]; exact h.len, h.bel.trans (ht.below h.gp h.gq h.gw), h.sz, h.gp, h.gq, h.ga, h.np, h.nq⟩
/-- A step of the clock and a store into the array. -/
theorem Qt.put (h : Qt w0 g w p q a L now) {m t x : Nat} {b : Bool} (hp : RdP w' p q (L.set t x) m) (ht : Turns p q w w') (hb : (x == 1) = b) : Qt w0 g (w'.setCell ⟨a, t, none⟩ (.bool b)) p q a (L.set t x) m := by
  subst hb
  refine ⟨hp.same (Below.heap_setCell _ _ _ _ (by simpa using fun e => h.np e.symm)) (Below.heap_setCell _ _ _ _ (by simpa using fun e => h.nq e.symm)), ?_, by rw [List.length_set]; exact h.len, (h.bel.trans (ht.below h.gp h.gq h.gw)).setCell h.ga _, h.sz, h.gp, h.gq, h.ga, h.np, h.nq⟩
  rw [heap_setCell_same w' a t _ 44 _ (h.mid ht), ← onesB_set]
  simp
theorem ones_enter {L : List Nat} {now : Nat} (hn : 2 ≤ now) (t : Int) : onesB (enterL L now t) = onesB L := by
  unfold enterL
  split
  · rename_i he
    have hr : inR L t := by
      unfold enterE at he
      split at he
      · assumption
      · omega
    have h0 : L.getD t.toNat 0 = 0 := by
      unfold enterE at he
      rw [if_pos hr] at he
      split at he
      · assumption
      · omega
    have hi : t.toNat < L.length := by have := hr.1; have := hr.2; omega
    apply List.ext_getElem (by simp [onesB])
    intro j h1 h2
    simp only [onesB, List.getElem_map, List.getElem_set]
    split
    · rename_i hj
      subst hj
      have : L[t.toNat] = 0 := by simpa [List.getD, List.getElem?_eq_getElem hi] using h0
      rw [this]
      have : (now == 1) = false := by simp; omega
      rw [this]
      rfl
    · rfl
  · rfl
theorem enterL_yes {L : List Nat} {t now : Nat} (hl : t < L.length) (h0 : L.getD t 0 = 0) : enterL L now t = L.set t now ∧ enterE L t = 0 := by
  have he : enterE L t = 0 := by unfold enterE; rw [if_pos ⟨by omega, by omega⟩, Int.toNat_natCast, if_pos h0]
  exact ⟨by unfold enterL; rw [if_pos he, Int.toNat_natCast], he⟩
theorem leaveL_yes {L : List Nat} {t : Nat} (hl : t < L.length) : leaveL L t = L.set t 0 := by unfold leaveL; rw [if_pos ⟨by omega, by omega⟩, Int.toNat_natCast]
theorem quiet_four {L : List Nat} (hl : L.length = 4) : quietB L 1 = (!(L.getD 0 0 == 1) && !(L.getD 1 0 == 1) && !(L.getD 2 0 == 1) && !(L.getD 3 0 == 1)) := by
  match L, hl with
  | [x, y, z, u], _ =>
    rw [Bool.eq_iff_iff, quietB_iff]
    simp
    omega

end Go.Proofs.Ythkiollggmeflaa
