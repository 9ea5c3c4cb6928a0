/-
  Proved here: how the list of links in a ring lies in memory.
  Conditions: at most 4,095 places.
-/
import Derived.Test.YtejljkpnhdnncaaCells13
import Derived.Test.YtejljkpnhdnncaaLinkIn
namespace Go.Proofs.Ytejljkpnhdnncaa
open Go Go.RowKit
set_option maxRecDepth 100000

/-! ### A ring -/
/-- The links L lie in the places P, the first one in place f. -/
structure Ring (P : List Ln) (f : Nat) (L : List Ln) : Prop where
  fits : L.length ≤ P.length
  first : f < P.length ∨ (f = 0 ∧ P = [])
  at_ : ∀ i x, L[i]? = some x → P[(f + i) % P.length]? = some x
theorem wrap_at {n f i : Nat} (hf : f < n) (hi : i < n) : (f + i) % n = if f + i < n then f + i else f + i - n := by
  split
  · exact Nat.mod_eq_of_lt (by assumption)
  · rw [Nat.mod_eq_sub_mod (by omega), Nat.mod_eq_of_lt (by omega)]
theorem wrap_ne {n f i j : Nat} (hf : f < n) (hi : i < n) (hj : j < n) (h : i ≠ j) : (f + i) % n ≠ (f + j) % n := by
  rw [wrap_at hf hi, wrap_at hf hj]
  split <;> split <;> omega
theorem ring_nil : Ring [] 0 [] := ⟨by simp, .inr ⟨rfl, rfl⟩, fun i x h => by cases h⟩
theorem Ring.first_lt {P L : List Ln} {f : Nat} (h : Ring P f L) (hl : 0 < P.length) : f < P.length := by
  rcases h.first with h | ⟨_, rfl⟩
  · exact h
  · simp at hl
theorem Ring.head {P L : List Ln} {f : Nat} {x : Ln} (h : Ring P f (x :: L)) : f < P.length ∧ P[f]? = some x := by
  have hf := h.first_lt (by have := h.fits; simp at this; omega)
  have := h.at_ 0 x rfl
  rw [Nat.add_zero, Nat.mod_eq_of_lt hf] at this
  exact ⟨hf, this⟩
theorem Ring.push {P L : List Ln} {f : Nat} (h : Ring P f L) (hr : L.length < P.length) (x : Ln) : Ring (P.set ((f + L.length) % P.length) x) f (L ++ [x]) := by
  have hf := h.first_lt (by omega)
  refine ⟨by simp; omega, .inl (by simpa using hf), fun i y hi => ?_⟩
  rw [List.length_set]
  rcases Nat.lt_or_ge i L.length with h1 | h1
  · rw [List.getElem?_append_left h1] at hi
    rw [List.getElem?_set_ne (wrap_ne hf (by omega) (by omega) (by omega))]
    exact h.at_ i y hi
  · obtain rfl : i = L.length := by
      have := (List.getElem?_eq_some_iff.1 hi).1
      simp at this; omega
    rw [List.getElem?_append_right (Nat.le_refl _), Nat.sub_self] at hi
    obtain rfl : x = y := by simpa using hi
    rw [List.getElem?_set_self (Nat.mod_lt _ (by omega))]
theorem Ring.pop {P L : List Ln} {f : Nat} {x : Ln} (h : Ring P f (x :: L)) (z : Ln) : Ring (P.set f z) ((f + 1) % P.length) L := by
  have hf := (h.head).1
  have hl : L.length + 1 ≤ P.length := by have := h.fits; simpa using this
  refine ⟨by simp; omega, .inl (by rw [List.length_set]; exact Nat.mod_lt _ (by omega)), fun i y hi => ?_⟩
  have hil := (List.getElem?_eq_some_iff.1 hi).1
  have h1 := h.at_ (i + 1) y (by simpa using hi)
  rw [List.length_set, Nat.mod_add_mod, Nat.add_assoc, Nat.add_comm 1 i]
  have hne := wrap_ne (n := P.length) (f := f) (i := 0) (j := i + 1) hf (by omega) (by omega) (by omega)
  rw [Nat.add_zero, Nat.mod_eq_of_lt hf] at hne
  rw [List.getElem?_set_ne hne]
  exact h1
theorem Ring.grown (L : List Ln) (k : Nat) : Ring (L ++ List.replicate (k + 1) Ln.zero) 0 L := by
  refine ⟨by simp, .inl (by simp; omega), fun i y hi => ?_⟩
  have hil := (List.getElem?_eq_some_iff.1 hi).1
  rw [Nat.zero_add, Nat.mod_eq_of_lt (by simp; omega), List.getElem?_append_left hil]
  exact hi

/-! ### The list in memory -/
/-- The list at p with the links L: its places P are v's, the first link lies in place f. -/
structure Fi (w : World) (p : Nat) (v : Value) (f : Nat) (P L : List Ln) : Prop where
  mem : w.heap[p]? = some (.cells #[v, .int .i64 (f : Nat), .int .i64 (L.length : Nat)] 44 (0, 0))
  row : w.ownsRow 0 29 5 v P.length (encL P)
  ring : Ring P f L
  self : v.ownBlock ≠ some p
  small : P.length ≤ 4095
/-- The list's own blocks. -/
def fiOwn (p : Nat) (v : Value) (k : Nat) : Prop := k = p ∨ v.ownBlock = some k
section
variable {w w' w1 : World} {p f : Nat} {v : Value} {P L : List Ln}
theorem Fi.lt (h : Fi w p v f P L) {k : Nat} (hk : fiOwn p v k) : k < w.heap.size := by
  rcases hk with rfl | e
  · exact lt_of_heap h.mem
  · exact (h.row.lt k e).2
theorem Fi.stay {S : Nat → Prop} (h : Fi w p v f P L) (hs : Stay S w w') (hn : ∀ k, fiOwn p v k → ¬ S k) : Fi w' p v f P L :=
  ⟨(hs.block p (hn p (.inl rfl)) (h.lt (.inl rfl))).trans h.mem, own_same h.row fun k hk => hs.block k (hn k (.inr hk)) (h.lt (.inr hk)), h.ring, h.self, h.small⟩
theorem Fi.below (h : Fi w p v f P L) (hb : Below w.heap.size w w') : Fi w' p v f P L := h.stay (S := fun _ => False) (Stay.of_below hb) (fun _ _ => id)
theorem Fi.drewN (h : Fi w p v f P L) (k : Nat) : Fi (w.drewN k) p v f P L := h.below (below_drewN (Below.refl _ _) k)
theorem Fi.cells (h : Fi w p v f P L) : w.cell? ⟨p, 0, none⟩ = some v ∧ w.cell? ⟨p, 1, none⟩ = some (.int .i64 (f : Nat)) ∧ w.cell? ⟨p, 2, none⟩ = some (.int .i64 (L.length : Nat)) := by
  refine ⟨?_, ?_, ?_⟩ <;> simp [World.cell?, h.mem]
theorem Fi.frozen (h : Fi w p v f P L) (i : Nat) : w.frozen? ⟨p, i, none⟩ = false := by simp [World.frozen?, h.mem]
/-- The places, to be read. -/
theorem Fi.reads (h : Fi w p v f P L) : ∃ A cap, v = .slice A P.length cap ∧ (A = none → P = []) ∧ RowL w A P := by
  obtain ⟨_, A, cap, e, h1, h2, h3, _⟩ := rowL_of_own h.row (by have := h.small; omega)
  exact ⟨A, cap, e, fun e => List.eq_nil_of_length_eq_zero (h3 e).1, h2⟩
end
theorem fi_new (w : World) : Fi (w.alloc (.cells #[.slice none 0 0, .int .i64 0, .int .i64 0] 44)) w.heap.size (.slice none 0 0) 0 [] [] :=
  ⟨heap_alloc_new w _, World.ownsRow_nil _ _ _ _, ring_nil, fun h => (by cases h), by simp⟩
/-- What a step of the list leaves. -/
def FiTo (w : World) (p : Nat) (v : Value) (L : List Ln) (w' : World) : Prop :=
  ∃ v' f' P', Fi w' p v' f' P' L ∧ Stay (fiOwn p v) w w' ∧ ∀ k, fiOwn p v' k → fiOwn p v k ∨ w.heap.size ≤ k

end Go.Proofs.Ytejljkpnhdnncaa
