/-
  Proved here: what a reader clock is, as numbers; how it lies in memory.
  Conditions: epochs below 2^32.
-/
import Derived.Test.YtfonjkbdonbjdaaNvmMath
namespace Go.Proofs.Ytfonjkbdonbjdaa
open Go Go.RowKit

/-- What each thread has announced, 0 where it is not inside; and the epoch. -/
def inR (L : List Nat) (t : Int) : Prop := 0 ≤ t ∧ t < L.length
instance (L : List Nat) (t : Int) : Decidable (inR L t) := inferInstanceAs (Decidable (_ ∧ _))
def insideV (L : List Nat) (t : Int) : Nat := if inR L t then L.getD t.toNat 0 else 0
def enterE (L : List Nat) (t : Int) : Int := if inR L t then (if L.getD t.toNat 0 = 0 then 0 else 7) else 1
def enterV (L : List Nat) (now : Nat) (t : Int) : Nat := if enterE L t = 0 then now else 0
def enterL (L : List Nat) (now : Nat) (t : Int) : List Nat := if enterE L t = 0 then L.set t.toNat now else L
def leaveE (L : List Nat) (t : Int) : Int := if inR L t then (if L.getD t.toNat 0 = 0 then 12 else 0) else 1
def leaveL (L : List Nat) (t : Int) : List Nat := if inR L t then L.set t.toNat 0 else L
def leastStep (m e : Nat) : Nat := if e ≠ 0 ∧ (m = 0 ∨ e < m) then e else m
def leastL (L : List Nat) : Nat := L.foldl leastStep 0
def quietB (L : List Nat) (e : Nat) : Bool := decide (leastL L = 0 ∨ e < leastL L)
theorem leastL_take (L : List Nat) (i : Nat) (h : i < L.length) : leastL (L.take (i + 1)) = leastStep (leastL (L.take i)) (L.getD i 0) := by
  unfold leastL
  rw [List.take_succ_eq_append_getElem h, List.foldl_append]
  simp [List.getD, List.getElem?_eq_getElem h]
theorem least_fold (L : List Nat) : ∀ m, (L.foldl leastStep m = 0 ↔ m = 0 ∧ ∀ x ∈ L, x = 0) ∧ (L.foldl leastStep m = m ∨ L.foldl leastStep m ∈ L) ∧ (m ≠ 0 → L.foldl leastStep m ≤ m) ∧ (∀ x ∈ L, x ≠ 0 → L.foldl leastStep m ≤ x) := by
  induction L with
  | nil => intro m; simp
  | cons y L ih =>
    intro m
    obtain ⟨h1, h2, h3, h4⟩ := ih (leastStep m y)
    rw [List.foldl_cons]
    have hs : leastStep m y = y ∧ y ≠ 0 ∧ (m = 0 ∨ y < m) ∨ leastStep m y = m ∧ (y = 0 ∨ m ≠ 0 ∧ m ≤ y) := by
      unfold leastStep
      split
      · rename_i h; exact .inl ⟨rfl, h.1, h.2⟩
      · rename_i h; exact .inr ⟨rfl, by omega⟩
    generalize leastStep m y = s at *
    generalize List.foldl leastStep s L = r at *
    refine ⟨?_, ?_, ?_, ?_⟩
    · rw [h1, List.forall_mem_cons]
      constructor
      · rintro ⟨a, b⟩; exact ⟨by omega, by omega, b⟩
      · rintro ⟨a, b, c⟩; exact ⟨by omega, c⟩
    · rcases h2 with h2 | h2
      · rcases hs with ⟨e, _⟩ | ⟨e, _⟩
        · right; rw [h2, e]; simp
        · left; omega
      · right; simp [h2]
    · intro hm
      rcases Nat.eq_zero_or_pos s with hz | hz
      · omega
      · have := h3 (by omega); omega
    · intro x hx hx0
      rcases List.mem_cons.1 hx with rfl | hx
      · have := h3 (by omega); omega
      · exact h4 x hx hx0
theorem leastL_zero (L : List Nat) : leastL L = 0 ↔ ∀ x ∈ L, x = 0 := by have := (least_fold L 0).1; simpa [leastL] using this
theorem leastL_mem {L : List Nat} (h : leastL L ≠ 0) : leastL L ∈ L := by
  rcases (least_fold L 0).2.1 with e | e
  · exact absurd e h
  · exact e
theorem leastL_le {L : List Nat} {x : Nat} (h : x ∈ L) (h0 : x ≠ 0) : leastL L ≤ x := (least_fold L 0).2.2.2 x h h0
theorem quietB_iff (L : List Nat) (e : Nat) : quietB L e = true ↔ ∀ x ∈ L, x = 0 ∨ e < x := by
  unfold quietB
  rw [decide_eq_true_eq]
  constructor
  · rintro (h | h) x hx
    · exact .inl ((leastL_zero L).1 h x hx)
    · rcases Nat.eq_zero_or_pos x with h0 | h0
      · exact .inl h0
      · have := leastL_le hx (by omega); exact .inr (by omega)
  · intro h
    rcases Nat.eq_zero_or_pos (leastL L) with h0 | h0
    · exact .inl h0
    · rcases h _ (leastL_mem (by omega)) with h1 | h1
      · omega
      · exact .inr h1
/-- All that is announced is at most the epoch, which is at least 1. -/
structure Clk (L : List Nat) (now : Nat) : Prop where
  pos : 1 ≤ now
  most : now < 4294967296
  le : ∀ x ∈ L, x ≤ now
  len : 1 ≤ L.length
  many : L.length ≤ 4
theorem enterL_len (L : List Nat) (now : Nat) (t : Int) : (enterL L now t).length = L.length := by unfold enterL; split <;> simp
theorem leaveL_len (L : List Nat) (t : Int) : (leaveL L t).length = L.length := by unfold leaveL; split <;> simp
theorem mem_set_or {L : List Nat} {i y x : Nat} (h : x ∈ L.set i y) : x ∈ L ∨ x = y := List.mem_or_eq_of_mem_set h
theorem Clk.enter {L : List Nat} {now : Nat} (h : Clk L now) (t : Int) : Clk (enterL L now t) now := by
  refine ⟨h.pos, h.most, fun x hx => ?_, by rw [enterL_len]; exact h.len, by rw [enterL_len]; exact h.many⟩
  unfold enterL at hx
  split at hx
  · rcases mem_set_or hx with h1 | h1
    · exact h.le x h1
    · omega
  · exact h.le x hx
theorem Clk.leave {L : List Nat} {now : Nat} (h : Clk L now) (t : Int) : Clk (leaveL L t) now := by
  refine ⟨h.pos, h.most, fun x hx => ?_, by rw [leaveL_len]; exact h.len, by rw [leaveL_len]; exact h.many⟩
  unfold leaveL at hx
  split at hx
  · rcases mem_set_or hx with h1 | h1
    · exact h.le x h1
    · omega
  · exact h.le x hx
theorem Clk.advance {L : List Nat} {now : Nat} (h : Clk L now) (hn : now + 1 < 4294967296) : Clk L (now + 1) := ⟨by omega, hn, fun x hx => by have := h.le x hx; omega, h.len, h.many⟩
/-! ### A clock in memory -/
def encU (L : List Nat) : List Value := L.map fun x => .int .u64 (x : Nat)
theorem encU_len (L : List Nat) : (encU L).length = L.length := by simp [encU]
theorem encU_at (L : List Nat) (i : Nat) (h : i < L.length) : (encU L)[i]? = some (.int .u64 (L.getD i 0 : Nat)) := by simp [encU, List.getElem?_eq_getElem h, List.getD]
theorem encU_set (L : List Nat) (i x : Nat) : (encU L).set i (.int .u64 (x : Nat)) = encU (L.set i x) := by simp [encU, List.map_set]
/-- The clock at p, whose announced numbers lie at q. T: the type of one of them; D: the clock's. o: the epoch comes first. -/
def headRd (o : Bool) (q n now : Nat) : List Value := if o then [.int .u64 (now : Nat), .slice (some ⟨q, 0, none⟩) n n] else [.slice (some ⟨q, 0, none⟩) n n, .int .u64 (now : Nat)]
structure Rd (T D : TypeId) (o : Bool) (w : World) (p q : Nat) (L : List Nat) (now : Nat) : Prop where
  clk : Clk L now
  ne : p ≠ q
  mem : w.heap[p]? = some (.cells (headRd o q L.length now).toArray D (0, 0))
  row : w.heap[q]? = some (.cells (encU L).toArray T (0, 0))
variable {T D : TypeId} {o : Bool} {w w' : World} {p q now : Nat} {L : List Nat}
theorem Rd.lt_p (h : Rd T D o w p q L now) : p < w.heap.size := lt_of_heap h.mem
theorem Rd.lt_q (h : Rd T D o w p q L now) : q < w.heap.size := lt_of_heap h.row
theorem Rd.same (h : Rd T D o w p q L now) (hp : w'.heap[p]? = w.heap[p]?) (hq : w'.heap[q]? = w.heap[q]?) : Rd T D o w' p q L now := ⟨h.clk, h.ne, hp.trans h.mem, hq.trans h.row⟩
theorem Rd.below (h : Rd T D o w p q L now) (hb : Below w.heap.size w w') : Rd T D o w' p q L now := h.same (hb.block p h.lt_p) (hb.block q h.lt_q)
theorem Rd.turns {p' q' : Nat} (h : Rd T D o w p q L now) (ht : Turns p' q' w w') (h1 : p ≠ p') (h2 : p ≠ q') (h3 : q ≠ p') (h4 : q ≠ q') : Rd T D o w' p q L now := h.same (ht.block p h1 h2 h.lt_p) (ht.block q h3 h4 h.lt_q)
theorem Rd.drewN (h : Rd T D o w p q L now) (k : Nat) : Rd T D o (w.drewN k) p q L now := h.same rfl rfl
theorem Rd.drew (h : Rd T D o w p q L now) : Rd T D o w.drew p q L now := h.same rfl rfl
theorem Rd.at_ (h : Rd T D o w p q L now) {i : Nat} (hi : i < L.length) : w.cell? ⟨q, i, none⟩ = some (.int .u64 (L.getD i 0 : Nat)) := by
  rw [← encU_at L i hi]
  simp [World.cell?, h.row]
theorem Rd.frozen (h : Rd T D o w p q L now) (j : Nat) : w.frozen? ⟨q, j, none⟩ = false := by simp [World.frozen?, h.row]
theorem Rd.frozenP (h : Rd T D o w p q L now) (j : Nat) : w.frozen? ⟨p, j, none⟩ = false := by simp [World.frozen?, h.mem]
theorem Rd.slice1 (h : Rd T D true w p q L now) : w.cell? ⟨p, 1, none⟩ = some (.slice (some ⟨q, 0, none⟩) L.length L.length) := by simp [World.cell?, h.mem, headRd]
theorem Rd.now0 (h : Rd T D true w p q L now) : w.cell? ⟨p, 0, none⟩ = some (.int .u64 (now : Nat)) := by simp [World.cell?, h.mem, headRd]
theorem Rd.slice0 (h : Rd T D false w p q L now) : w.cell? ⟨p, 0, none⟩ = some (.slice (some ⟨q, 0, none⟩) L.length L.length) := by simp [World.cell?, h.mem, headRd]
theorem Rd.now1 (h : Rd T D false w p q L now) : w.cell? ⟨p, 1, none⟩ = some (.int .u64 (now : Nat)) := by simp [World.cell?, h.mem, headRd]
theorem Rd.set (h : Rd T D o w p q L now) (i x : Nat) (hc : Clk (L.set i x) now) : Rd T D o (w.setCell ⟨q, i, none⟩ (.int .u64 (x : Nat))) p q (L.set i x) now := by
  refine ⟨hc, h.ne, ?_, ?_⟩
  · rw [Below.heap_setCell _ _ _ _ (by simpa using h.ne), h.mem, List.length_set]
  · rw [heap_setCell_same w q i _ T _ h.row, ← encU_set]
    simp
theorem Rd.setNow0 (h : Rd T D true w p q L now) (x : Nat) (hc : Clk L x) : Rd T D true (w.setCell ⟨p, 0, none⟩ (.int .u64 (x : Nat))) p q L x := by
  refine ⟨hc, h.ne, ?_, ?_⟩
  · rw [heap_setCell_same w p 0 _ D _ h.mem]
    simp [headRd]
  · rw [Below.heap_setCell _ _ _ _ (by simpa using fun e => h.ne e.symm), h.row]
theorem Rd.setNow1 (h : Rd T D false w p q L now) (x : Nat) (hc : Clk L x) : Rd T D false (w.setCell ⟨p, 1, none⟩ (.int .u64 (x : Nat))) p q L x := by
  refine ⟨hc, h.ne, ?_, ?_⟩
  · rw [heap_setCell_same w p 1 _ D _ h.mem]
    simp [headRd]
  · rw [Below.heap_setCell _ _ _ _ (by simpa using fun e => h.ne e.symm), h.row]
theorem turns_q (p q : Nat) (w : World) (i : Nat) (u : Value) : Turns p q w (w.setCell ⟨q, i, none⟩ u) := ⟨rfl, rfl, rfl, by simp [World.setCell], fun k _ hk _ => Below.heap_setCell _ _ _ _ (by simpa using hk)⟩

end Go.Proofs.Ytfonjkbdonbjdaa
