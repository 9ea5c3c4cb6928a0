/-
  Proved here: how a store of pairs and texts lies in memory.
  Conditions: less than 10^6 of each.
-/
import Derived.Test.YtpmgnhijiodbaaaDelF15
namespace Go.Proofs.Ytpmgnhijiodbaaa
open Go Go.RowKit
set_option maxRecDepth 100000

/-! ### A store in memory -/
theorem shelf_info : (Try.prog.info? 25).map (fun i => (i.zero, i.size, i.bytes)) = some (some (.agg #[.slice none 0 0, .slice none 0 0]), 2, 48) := by kernel_rfl
theorem shelf_info' : ∃ i, Try.prog.info? 25 = some i ∧ i.zero = some (.agg #[.slice none 0 0, .slice none 0 0]) ∧ i.size = 2 ∧ i.bytes = 48 := by
  obtain ⟨i, h1, h2⟩ := Option.map_eq_some_iff.1 shelf_info
  simp only [Prod.mk.injEq] at h2
  exact ⟨i, h1, h2.1, h2.2.1, h2.2.2⟩
theorem zero_shelf : (Try.prog.info? 25).bind (·.zero) = some (.agg #[.slice none 0 0, .slice none 0 0]) := by
  obtain ⟨i, h1, h2, _⟩ := shelf_info'
  rw [h1]
  exact h2
theorem size_shelf : (Try.prog.info? 25).map (·.size) = some 2 := by
  obtain ⟨i, h1, _, h2, _⟩ := shelf_info'
  rw [h1]
  simp [h2]
theorem onesV (p q : Option Addr) (a b c d : Nat) : (#[.slice p a b, .slice q c d] : Array Value).all (·.oneCell') = true := all_oneCell_toArray (cs := [.slice p a b, .slice q c d]) (fun u hu => by
  simp only [List.mem_cons, List.not_mem_nil, or_false] at hu
  rcases hu with rfl | rfl <;> rfl)
/-- The store at p, whose rows v1, v2 are its own: the pairs L, the texts Q. -/
structure Shm (w : World) (p : Nat) (v1 v2 : Value) (L : List Kv) (Q : List ByteArray) : Prop where
  mem : w.heap[p]? = some (.cells #[v1, v2] 25 (0, 0))
  o1 : w.ownsRow 0 RP.tE RP.k v1 L.length (RP.enc L)
  o2 : w.ownsRow 0 RS.tE RS.k v2 Q.length (RS.enc Q)
  ne1 : v1.ownBlock ≠ some p
  ne2 : v2.ownBlock ≠ some p
  ne3 : ∀ k, v1.ownBlock = some k → v2.ownBlock ≠ some k
  l1 : L.length < 1000000
  l2 : Q.length < 1000000
/-- The store's own blocks. -/
def shOwn (p : Nat) (v1 v2 : Value) (k : Nat) : Prop := k = p ∨ v1.ownBlock = some k ∨ v2.ownBlock = some k
/-- The store has turned, and nothing else. -/
def ShTo (w : World) (p : Nat) (v1 v2 : Value) (L : List Kv) (Q : List ByteArray) (w' : World) : Prop :=
  ∃ u1 u2, Shm w' p u1 u2 L Q ∧ Stay (shOwn p v1 v2) w w' ∧ ∀ k, shOwn p u1 u2 k → shOwn p v1 v2 k ∨ w.heap.size ≤ k
theorem own_ltN {w : World} {B size n : Nat} {e : TypeId} {u : Value} {xs : List Value} (h : w.ownsRow B e size u n xs) {k : Nat} (hk : u.ownBlock = some k) : k < w.heap.size := by
  rcases h.2 with ⟨rfl, _⟩ | ⟨g, cap, cur, rfl, _, hh, _⟩
  · cases hk
  · cases hk
    exact lt_of_heap hh
section
variable {w w' : World} {p : Nat} {v1 v2 : Value} {L : List Kv} {Q : List ByteArray}
theorem Shm.lt (h : Shm w p v1 v2 L Q) {k : Nat} (hk : shOwn p v1 v2 k) : k < w.heap.size := by
  rcases hk with rfl | e | e
  · exact lt_of_heap h.mem
  · exact own_ltN h.o1 e
  · exact own_ltN h.o2 e
theorem Shm.stay {S : Nat → Prop} (h : Shm w p v1 v2 L Q) (hs : Stay S w w') (hn : ∀ k, shOwn p v1 v2 k → ¬ S k) : Shm w' p v1 v2 L Q :=
  ⟨(hs.block p (hn p (.inl rfl)) (h.lt (.inl rfl))).trans h.mem, own_same h.o1 (fun k hk => hs.block k (hn k (.inr (.inl hk))) (h.lt (.inr (.inl hk)))), own_same h.o2 (fun k hk => hs.block k (hn k (.inr (.inr hk))) (h.lt (.inr (.inr hk)))), h.ne1, h.ne2, h.ne3, h.l1, h.l2⟩
theorem Shm.below (h : Shm w p v1 v2 L Q) (hb : Below w.heap.size w w') : Shm w' p v1 v2 L Q := h.stay (S := fun _ => False) (Stay.of_below hb) (fun _ _ => id)
theorem Shm.drewN (h : Shm w p v1 v2 L Q) (k : Nat) : Shm (w.drewN k) p v1 v2 L Q := h.below (below_drewN (Below.refl _ _) k)
theorem Shm.forms (h : Shm w p v1 v2 L Q) : ∃ A c1 B c2, v1 = .slice A L.length c1 ∧ v2 = .slice B Q.length c2 ∧ L.length ≤ c1 ∧ c1 ≤ maxLen ∧ Q.length ≤ c2 ∧ c2 ≤ maxLen ∧ RP.Row w A L ∧ RS.Row w B Q ∧ (A = none → c1 = 0) ∧ (B = none → c2 = 0) := by
  obtain ⟨_, A, c1, e1, a1, a2, a3, a4, _⟩ := Rec.row_of_own h.o1 (by have := h.l1; omega)
  obtain ⟨_, B, c2, e2, b1, b2, b3, b4, _⟩ := Rec.row_of_own h.o2 (by have := h.l2; omega)
  exact ⟨A, c1, B, c2, e1, e2, a1, a2, b1, b2, a3, b3, fun e => (a4 e).2, fun e => (b4 e).2⟩
/-- Nothing has turned but what is new. -/
theorem ShTo.refl (h : Shm w p v1 v2 L Q) (hb : Below w.heap.size w w') : ShTo w p v1 v2 L Q w' := ⟨v1, v2, h.below hb, Stay.of_below hb, fun _ hk => .inl hk⟩
theorem ShTo.below {a : World} (h : ShTo w p v1 v2 L Q a) (hb : Below a.heap.size a w') : ShTo w p v1 v2 L Q w' := by
  obtain ⟨u1, u2, h1, h2, h3⟩ := h
  exact ⟨u1, u2, h1.below hb, h2.trans (Stay.of_below hb), h3⟩
/-- A step behind what is new. -/
theorem ShTo.ahead {a : World} (hb : Below w.heap.size w a) (h : ShTo a p v1 v2 L Q w') : ShTo w p v1 v2 L Q w' := by
  obtain ⟨u1, u2, h1, h2, h3⟩ := h
  exact ⟨u1, u2, h1, (Stay.of_below hb).trans h2, fun k hk => (h3 k hk).imp id (Nat.le_trans hb.size)⟩
theorem ShTo.trans {a : World} {u1 u2 : Value} {L' : List Kv} {Q' : List ByteArray} (hs : Stay (shOwn p v1 v2) w a) (ho : ∀ k, shOwn p u1 u2 k → shOwn p v1 v2 k ∨ w.heap.size ≤ k) (h : ShTo a p u1 u2 L' Q' w') : ShTo w p v1 v2 L' Q' w' := by
  obtain ⟨x1, x2, h1, h2, h3⟩ := h
  refine ⟨x1, x2, h1, hs.new h2 ho, fun k hk => ?_⟩
  rcases h3 k hk with e | e
  · exact ho k e
  · exact .inr (Nat.le_trans hs.size e)
/-- The pairs' row made anew, or written over, and laid into the store. -/
theorem Shm.pairs (h : Shm w p v1 v2 L Q) {a : World} {u : Value} {L' : List Kv} (hl : L'.length < 1000000) (h1 : a.ownsRow 0 RP.tE RP.k u L'.length (RP.enc L')) (h2 : Stay (fun k => v1.ownBlock = some k) w a) (h3 : ∀ k, u.ownBlock = some k → v1.ownBlock = some k ∨ w.heap.size ≤ k) : ShTo w p v1 v2 L' Q (a.setCell ⟨p, 0, none⟩ u) := by
  have hmem : a.heap[p]? = some (.cells #[v1, v2] 25 (0, 0)) := (h2.block p h.ne1 (h.lt (.inl rfl))).trans h.mem
  have hup : u.ownBlock ≠ some p := fun e => by
    rcases h3 p e with e2 | e2
    · exact h.ne1 e2
    · have := h.lt (k := p) (.inl rfl)
      omega
  have hset : (a.setCell ⟨p, 0, none⟩ u).heap[p]? = some (.cells #[u, v2] 25 (0, 0)) := heap_setCell_same a p 0 _ _ u hmem
  have hoth : ∀ k, k ≠ p → (a.setCell ⟨p, 0, none⟩ u).heap[k]? = a.heap[k]? := fun k hk => Below.heap_setCell _ _ _ _ hk
  refine ⟨u, v2, ⟨hset, own_same h1 (fun k hk => hoth k (fun e => hup (by rw [← e]; exact hk))), own_same h.o2 (fun k hk => ?_), hup, h.ne2, fun k hk hk2 => ?_, hl, h.l2⟩, ⟨?_, ?_, ?_, ?_, fun k hk hl => ?_⟩, fun k hk => ?_⟩
  · rw [hoth k (fun e => h.ne2 (by rw [← e]; exact hk))]
    exact h2.block k (fun e => h.ne3 k e hk) (h.lt (.inr (.inr hk)))
  · rcases h3 k hk with e | e
    · exact h.ne3 k e hk2
    · have := h.lt (k := k) (.inr (.inr hk2))
      omega
  · exact h2.os
  · exact h2.tape
  · exact h2.output
  · simp [World.setCell]; exact h2.size
  · rw [hoth k (fun e => hk (.inl e))]
    exact h2.block k (fun e => hk (.inr (.inl e))) hl
  · rcases hk with e | e | e
    · exact .inl (.inl e)
    · exact (h3 k e).imp (fun x => .inr (.inl x)) id
    · exact .inl (.inr (.inr e))
/-- The texts' row likewise. -/
theorem Shm.texts (h : Shm w p v1 v2 L Q) {a : World} {u : Value} {Q' : List ByteArray} (hl : Q'.length < 1000000) (h1 : a.ownsRow 0 RS.tE RS.k u Q'.length (RS.enc Q')) (h2 : Stay (fun k => v2.ownBlock = some k) w a) (h3 : ∀ k, u.ownBlock = some k → v2.ownBlock = some k ∨ w.heap.size ≤ k) : ShTo w p v1 v2 L Q' (a.setCell ⟨p, 1, none⟩ u) := by
  have hmem : a.heap[p]? = some (.cells #[v1, v2] 25 (0, 0)) := (h2.block p h.ne2 (h.lt (.inl rfl))).trans h.mem
  have hup : u.ownBlock ≠ some p := fun e => by
    rcases h3 p e with e2 | e2
    · exact h.ne2 e2
    · have := h.lt (k := p) (.inl rfl)
      omega
  have hset : (a.setCell ⟨p, 1, none⟩ u).heap[p]? = some (.cells #[v1, u] 25 (0, 0)) := heap_setCell_same a p 1 _ _ u hmem
  have hoth : ∀ k, k ≠ p → (a.setCell ⟨p, 1, none⟩ u).heap[k]? = a.heap[k]? := fun k hk => Below.heap_setCell _ _ _ _ hk
  refine ⟨v1, u, ⟨hset, own_same h.o1 (fun k hk => ?_), own_same h1 (fun k hk => hoth k (fun e => hup (by rw [← e]; exact hk))), h.ne1, hup, fun k hk hk2 => ?_, h.l1, hl⟩, ⟨?_, ?_, ?_, ?_, fun k hk hl => ?_⟩, fun k hk => ?_⟩
  · rw [hoth k (fun e => h.ne1 (by rw [← e]; exact hk))]
    exact h2.block k (fun e => h.ne3 k hk e) (h.lt (.inr (.inl hk)))
  · rcases h3 k hk2 with e | e
    · exact h.ne3 k hk e
    · have := h.lt (k := k) (.inr (.inl hk))
      omega
  · exact h2.os
  · exact h2.tape
  · exact h2.output
  · simp [World.setCell]; exact h2.size
  · rw [hoth k (fun e => hk (.inl e))]
    exact h2.block k (fun e => hk (.inr (.inr e))) hl
  · rcases hk with e | e | e
    · exact .inl (.inl e)
    · exact .inl (.inr (.inl e))
    · exact (h3 k e).imp (fun x => .inr (.inr x)) id
end
theorem Stay.of_grown {w w' : World} {v : Value} (h : w.grownBy w' v.ownBlock) : Stay (fun k => v.ownBlock = some k) w w' := ⟨h.os, h.tape, h.output, h.size, fun k hk hl => h.block k hl (Ne.symm hk)⟩

end Go.Proofs.Ytpmgnhijiodbaaa
