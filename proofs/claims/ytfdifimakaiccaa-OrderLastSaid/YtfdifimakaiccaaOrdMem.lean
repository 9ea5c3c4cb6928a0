/-
  Proved here: how an order of links lies in memory.
  Conditions: none.
-/
import Derived.Test.YtfdifimakaiccaaOrdMath
import Derived.Test.YtfdifimakaiccaaTabMem
import Derived.Test.YtfdifimakaiccaaTabA
namespace Go.Proofs.Ytfdifimakaiccaa
open Go Go.RowKit
set_option maxRecDepth 100000

/-! ### The order in memory -/
def upd {α : Type} (f : Nat → α) (i : Nat) (a : α) : Nat → α := fun j => if j = i then a else f j
theorem upd_same {α : Type} (f : Nat → α) (i : Nat) (a : α) : upd f i a i = a := if_pos rfl
theorem upd_ne {α : Type} (f : Nat → α) {i j : Nat} (a : α) (h : j ≠ i) : upd f i a j = f j := if_neg h
def vcells (v : Nat → Value) : List Value := (List.range 4).map v
theorem vcells_at (v : Nat → Value) {i : Nat} (h : i < 4) : (vcells v)[i]? = some (v i) := by simp [vcells, h]
theorem vcells_set (v : Nat → Value) {i : Nat} (h : i < 4) (b : Value) : (vcells v).set i b = vcells (upd v i b) := by
  apply List.ext_getElem?
  intro j
  rw [List.getElem?_set]
  split
  · rename_i e
    subst e
    rw [if_pos (by simp [vcells]; exact h), vcells_at _ h, upd_same]
  · rename_i e
    rcases Nat.lt_or_ge j 4 with hj | hj
    · rw [vcells_at _ hj, vcells_at _ hj, upd_ne _ _ (fun x => e x.symm)]
    · rw [List.getElem?_eq_none (by simp [vcells]; exact hj), List.getElem?_eq_none (by simp [vcells]; exact hj)]
/-- The order at p: its slices v, with the links M. -/
structure Ro (w : World) (p : Nat) (v : Nat → Value) (M : Nat → List Ln) : Prop where
  mem : w.heap[p]? = some (.cells (vcells v).toArray 51 (0, 0))
  row : ∀ i, i < 4 → w.ownsRow 0 33 5 (v i) (M i).length (encL (M i))
  apart : ∀ i j b, i < 4 → j < 4 → (v i).ownBlock = some b → (v j).ownBlock = some b → i = j
  self : ∀ i, i < 4 → (v i).ownBlock ≠ some p
/-- The order's own blocks. -/
def odOwn (p : Nat) (v : Nat → Value) (k : Nat) : Prop := k = p ∨ ∃ i, i < 4 ∧ (v i).ownBlock = some k
section
variable {w w' w1 : World} {p : Nat} {v v' : Nat → Value} {M M' : Nat → List Ln} {L L' : List Ln}
theorem Ro.lt (h : Ro w p v M) {k : Nat} (hk : odOwn p v k) : k < w.heap.size := by
  rcases hk with rfl | ⟨i, hi, e⟩
  · exact lt_of_heap h.mem
  · exact ((h.row i hi).lt k e).2
theorem own_same {base size n : Nat} {e : TypeId} {u : Value} {xs : List Value} (h : w.ownsRow base e size u n xs) (hs : ∀ k, u.ownBlock = some k → w'.heap[k]? = w.heap[k]?) : w'.ownsRow base e size u n xs := by
  refine ⟨h.1, h.2.imp id ?_⟩
  rintro ⟨g, cap, cur, rfl, h2, h3, h4⟩
  exact ⟨g, cap, cur, rfl, h2, (hs g rfl).trans h3, h4⟩
theorem Ro.stay {S : Nat → Prop} (h : Ro w p v M) (hs : Stay S w w') (hn : ∀ k, odOwn p v k → ¬ S k) : Ro w' p v M :=
  ⟨(hs.block p (hn p (.inl rfl)) (h.lt (.inl rfl))).trans h.mem, fun i hi => own_same (h.row i hi) fun k hk => hs.block k (hn k (.inr ⟨i, hi, hk⟩)) (h.lt (.inr ⟨i, hi, hk⟩)), h.apart, h.self⟩
theorem Ro.below (h : Ro w p v M) (hb : Below w.heap.size w w') : Ro w' p v M := h.stay (S := fun _ => False) (Stay.of_below hb) (fun _ _ => id)
theorem Ro.drewN (h : Ro w p v M) (k : Nat) : Ro (w.drewN k) p v M := h.below (below_drewN (Below.refl _ _) k)
theorem Ro.cell (h : Ro w p v M) {i : Nat} (hi : i < 4) : w.cell? ⟨p, i, none⟩ = some (v i) := by
  have := vcells_at v hi
  simp [World.cell?, h.mem, this]
theorem Ro.frozen (h : Ro w p v M) (i : Nat) : w.frozen? ⟨p, i, none⟩ = false := by simp [World.frozen?, h.mem]
/-- One level's row has moved, and is noted. -/
theorem Ro.moved (h : Ro w p v M) {i : Nat} (hi : i < 4) {u : Value} {N : List Ln} (ho : w1.ownsRow 0 33 5 u N.length (encL N)) (hg : w.grownBy w1 (v i).ownBlock) (hu : ∀ k, u.ownBlock = some k → (v i).ownBlock = some k ∨ w.heap.size ≤ k) :
    Ro (w1.setCell ⟨p, i, none⟩ u) p (upd v i u) (upd M i N) ∧ Stay (odOwn p v) w (w1.setCell ⟨p, i, none⟩ u) ∧ ∀ k, odOwn p (upd v i u) k → odOwn p v k ∨ w.heap.size ≤ k := by
  have hp : p < w.heap.size := lt_of_heap h.mem
  have hm1 : w1.heap[p]? = some (.cells (vcells v).toArray 51 (0, 0)) := (hg.block p hp (fun e => h.self i hi e.symm)).trans h.mem
  have hup : u.ownBlock ≠ some p := fun e => by
    rcases hu p e with e2 | e2
    · exact h.self i hi e2
    · omega
  have hs1 : Stay (fun k => (v i).ownBlock = some k) w w1 := ⟨hg.os, hg.tape, hg.output, hg.size, fun k hk hl => hg.block k hl (fun e => hk e.symm)⟩
  have hs2 : Stay (fun k => k = p) w1 (w1.setCell ⟨p, i, none⟩ u) := Stay.setCell w1 p i u rfl
  refine ⟨⟨?_, fun j hj => ?_, fun j l b hj hl ej el => ?_, fun j hj => ?_⟩, ?_, fun k hk => ?_⟩
  · rw [heap_setCell_same w1 p i _ 51 _ hm1, ← vcells_set v hi u]
    simp
  · by_cases e : j = i
    · subst e
      rw [upd_same, upd_same]
      exact own_same ho fun k hk => Below.heap_setCell _ _ _ _ (fun e2 => hup (by rw [hk, e2]))
    · rw [upd_ne _ _ e, upd_ne _ _ e]
      exact own_same (h.row j hj) fun k hk => (Below.heap_setCell _ _ _ _ (fun e2 => h.self j hj (by rw [hk, e2]))).trans (hs1.block k (fun e2 => e (h.apart j i k hj hi hk e2)) ((h.row j hj).lt k hk).2)
  · have key : ∀ j, j < 4 → j ≠ i → ∀ b, (v j).ownBlock = some b → u.ownBlock = some b → False := fun j hj hne b h1 h2 => by
      rcases hu b h2 with e2 | e2
      · exact hne (h.apart j i b hj hi h1 e2)
      · have := ((h.row j hj).lt b h1).2; omega
    by_cases e : j = i
    · by_cases e2 : l = i
      · exact e.trans e2.symm
      · rw [e, upd_same] at ej
        rw [upd_ne _ _ e2] at el
        exact (key l hl e2 b el ej).elim
    · rw [upd_ne _ _ e] at ej
      by_cases e2 : l = i
      · rw [e2, upd_same] at el
        exact (key j hj e b ej el).elim
      · rw [upd_ne _ _ e2] at el
        exact h.apart j l b hj hl ej el
  · by_cases e : j = i
    · rw [e, upd_same]; exact hup
    · rw [upd_ne _ _ e]; exact h.self j hj
  · exact (hs1.mono fun k _ hk => (.inr ⟨i, hi, hk⟩ : odOwn p v k)).trans (hs2.mono fun k _ hk => (.inl hk : odOwn p v k))
  · rcases hk with rfl | ⟨j, hj, e⟩
    · exact .inl (.inl rfl)
    · by_cases e2 : j = i
      · rw [e2, upd_same] at e
        rcases hu k e with e3 | e3
        · exact .inl (.inr ⟨i, hi, e3⟩)
        · exact .inr e3
      · rw [upd_ne _ _ e2] at e
        exact .inl (.inr ⟨j, hj, e⟩)
/-- One level's row has been written to, where it lies. -/
theorem Ro.wrote (h : Ro w p v M) {i : Nat} (hi : i < 4) {N : List Ln} (ho : w1.ownsRow 0 33 5 (v i) N.length (encL N)) (hg : w.grownBy w1 (v i).ownBlock) :
    Ro w1 p v (upd M i N) ∧ Stay (odOwn p v) w w1 := by
  have hp : p < w.heap.size := lt_of_heap h.mem
  have hs1 : Stay (fun k => (v i).ownBlock = some k) w w1 := ⟨hg.os, hg.tape, hg.output, hg.size, fun k hk hl => hg.block k hl (fun e => hk e.symm)⟩
  refine ⟨⟨(hs1.block p (h.self i hi) hp).trans h.mem, fun j hj => ?_, h.apart, h.self⟩, hs1.mono fun k _ hk => (.inr ⟨i, hi, hk⟩ : odOwn p v k)⟩
  by_cases e : j = i
  · subst e
    rw [upd_same]
    exact ho
  · rw [upd_ne _ _ e]
    exact own_same (h.row j hj) fun k hk => hs1.block k (fun e2 => e (h.apart j i k hj hi hk e2)) ((h.row j hj).lt k hk).2
theorem Ro.congr (h : Ro w p v M) (he : ∀ i, i < 4 → M i = M' i) : Ro w p v M' := ⟨h.mem, fun i hi => by rw [← he i hi]; exact h.row i hi, h.apart, h.self⟩
/-- The order at p with the links L, by rising keys. -/
structure Od (w : World) (p : Nat) (v : Nat → Value) (L : List Ln) : Prop where
  rises : RisesK L
  keys : ∀ x ∈ L, x.k.length ≤ 1073741824
  ro : Ro w p v fun i => lev i L
theorem Od.lt (h : Od w p v L) {k : Nat} (hk : odOwn p v k) : k < w.heap.size := h.ro.lt hk
theorem Od.stay {S : Nat → Prop} (h : Od w p v L) (hs : Stay S w w') (hn : ∀ k, odOwn p v k → ¬ S k) : Od w' p v L := ⟨h.rises, h.keys, h.ro.stay hs hn⟩
theorem Od.below (h : Od w p v L) (hb : Below w.heap.size w w') : Od w' p v L := ⟨h.rises, h.keys, h.ro.below hb⟩
theorem Od.drewN (h : Od w p v L) (k : Nat) : Od (w.drewN k) p v L := ⟨h.rises, h.keys, h.ro.drewN k⟩
/-- The row of a level, to be read. -/
theorem Ro.reads (h : Ro w p v M) {i : Nat} (hi : i < 4) (hl : (M i).length ≤ 1048576) : ∃ A cap, v i = .slice A (M i).length cap ∧ (M i).length ≤ cap ∧ (A = none → (M i).length = 0 ∧ cap = 0) ∧ RowL w A (M i) := by
  obtain ⟨_, A, cap, e, h1, h2, h3, _⟩ := rowL_of_own (h.row i hi) hl
  exact ⟨A, cap, e, h1, h3, h2⟩
end
theorem od_new (w : World) : Od (w.alloc (.cells #[.slice none 0 0, .slice none 0 0, .slice none 0 0, .slice none 0 0] 51)) w.heap.size (fun _ => .slice none 0 0) [] :=
  ⟨risesK_nil, fun _ h => (by cases h), ⟨heap_alloc_new w _, fun _ _ => World.ownsRow_nil _ _ _ _, fun _ _ _ _ _ h => (by cases h), fun _ _ h => (by cases h)⟩⟩
/-- What a step of an order leaves. -/
def OdTo (w : World) (p : Nat) (v : Nat → Value) (L : List Ln) (w' : World) : Prop :=
  ∃ v', Od w' p v' L ∧ Stay (odOwn p v) w w' ∧ ∀ k, odOwn p v' k → odOwn p v k ∨ w.heap.size ≤ k
theorem cap63 {w : World} {base n : Nat} {A : Option Addr} {len cap : Nat} {xs : List Value} (h : w.ownsRow base 33 5 (.slice A len cap) n xs) : cap ≤ maxLen := by
  rcases h.2 with ⟨e, _⟩ | ⟨g, c, cur, e, _, _, _, h3, _⟩
  · cases e; exact Nat.zero_le _
  · cases e; exact h3

end Go.Proofs.Ytfdifimakaiccaa
