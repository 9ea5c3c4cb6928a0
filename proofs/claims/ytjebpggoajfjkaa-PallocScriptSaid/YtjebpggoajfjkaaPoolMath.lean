/-
    Proved here: plain facts on pools of chapter 7: which blocks are free, which one is taken next, what giving back and marking leave, that taken blocks lie apart.
  Conditions: none.
-/
import Derived.Test.YtjebpggoajfjkaaClassA
namespace Go.Proofs.Ytjebpggoajfjkaa
open Go Go.RowKit

/-- Taken blocks: a line, a class. -/
abbrev Tk := Int × Int
def Rising (L : List Tk) : Prop := L.Pairwise fun a b => a.1 < b.1
/-- The class of a slab, -1 if it is whole. -/
def clsAt (L : List Tk) (k : Int) : Int := match L.find? fun t => slabOfN t.1 == k with
  | some t => t.2
  | none => -1
/-- The class of the block that begins at a line. -/
def ofL (L : List Tk) (x : Int) : Option Int := (L.find? fun t => t.1 == x).map (·.2)
def putL : List Tk → Int → Int → List Tk
  | [], x, c => [(x, c)]
  | t :: r, x, c => if x < t.1 then (x, c) :: t :: r else t :: putL r x c
def giveL (L : List Tk) (x : Int) : List Tk := L.filter fun t => t.1 != x
/-- The free blocks of slab k that may be of class c. -/
def freeAt (L : List Tk) (k c : Int) : List Int := if clsAt L k = c then (startsN k c).filter fun s => (ofL L s).isNone else []
def freeL (n : Nat) (L : List Tk) (c : Int) : List Int := (List.range n).flatMap fun k : Nat => freeAt L k c
def wholeL (n : Nat) (L : List Tk) : Option Nat := (List.range n).find? fun k : Nat => clsAt L k == -1
/-- Where the next block of class c is taken, -1: nowhere. -/
def nextL (n : Nat) (L : List Tk) (c : Int) : Int := match freeL n L c with
  | x :: _ => x
  | [] => match wholeL n L with
    | some k => slabN k
    | none => -1
def slabsL (n : Nat) (L : List Tk) : List Int := (List.range n).map fun k : Nat => clsAt L k

theorem rising_nil : Rising [] := List.Pairwise.nil
theorem mem_putL {L : List Tk} {x c : Int} {u : Tk} : u ∈ putL L x c ↔ u = (x, c) ∨ u ∈ L := by
  induction L with
  | nil => simp [putL]
  | cons t r ih =>
    unfold putL
    split
    · simp
    · simp only [List.mem_cons, ih]
      constructor
      · rintro (h | h | h)
        · exact .inr (.inl h)
        · exact .inl h
        · exact .inr (.inr h)
      · rintro (h | h | h)
        · exact .inr (.inl h)
        · exact .inl h
        · exact .inr (.inr h)
theorem rising_putL {L : List Tk} {x c : Int} (h : Rising L) (hx : ∀ t ∈ L, t.1 ≠ x) : Rising (putL L x c) := by
  induction L with
  | nil => simp [putL, Rising]
  | cons t r ih =>
    have h1 := List.pairwise_cons.1 h
    have hne := hx t (by simp)
    unfold putL
    split
    · rename_i hlt
      refine List.pairwise_cons.2 ⟨fun u hu => ?_, h⟩
      rcases List.mem_cons.1 hu with rfl | hu
      · exact hlt
      · have := h1.1 u hu
        show x < u.1
        omega
    · refine List.pairwise_cons.2 ⟨fun u hu => ?_, ih h1.2 (fun u hu => hx u (by simp [hu]))⟩
      rcases mem_putL.1 hu with rfl | hu
      · show t.1 < x
        omega
      · exact h1.1 u hu
/-- Rising lists that have the same are the same. -/
theorem rising_ext : ∀ {L M : List Tk}, Rising L → Rising M → (∀ u, u ∈ L ↔ u ∈ M) → L = M
  | [], [], _, _, _ => rfl
  | [], t :: r, _, _, h => by have := (h t).2 (by simp); cases this
  | t :: r, [], _, _, h => by have := (h t).1 (by simp); cases this
  | t :: r, s :: q, hL, hM, h => by
    have h1 := List.pairwise_cons.1 hL
    have h2 := List.pairwise_cons.1 hM
    have e : t = s := by
      rcases List.mem_cons.1 ((h t).1 (by simp)) with e | e
      · exact e
      · rcases List.mem_cons.1 ((h s).2 (by simp)) with e' | e'
        · exact e'.symm
        · have a1 := h2.1 t e
          have a2 := h1.1 s e'
          omega
    subst e
    congr 1
    refine rising_ext h1.2 h2.2 fun u => ?_
    constructor
    · intro hu
      rcases List.mem_cons.1 ((h u).1 (by simp [hu])) with e | e
      · subst e
        have := h1.1 u hu
        omega
      · exact e
    · intro hu
      rcases List.mem_cons.1 ((h u).2 (by simp [hu])) with e | e
      · subst e
        have := h2.1 u hu
        omega
      · exact e
theorem mem_giveL {L : List Tk} {x : Int} {u : Tk} : u ∈ giveL L x ↔ u ∈ L ∧ u.1 ≠ x := by simp [giveL]
theorem rising_giveL {L : List Tk} {x : Int} (h : Rising L) : Rising (giveL L x) := List.Pairwise.filter _ h
theorem give_put {L : List Tk} {x c : Int} (h : Rising L) (hx : ∀ t ∈ L, t.1 ≠ x) : giveL (putL L x c) x = L := by
  refine rising_ext (rising_giveL (rising_putL h hx)) h fun u => ?_
  rw [mem_giveL, mem_putL]
  constructor
  · rintro ⟨rfl | hu, h2⟩
    · exact absurd rfl h2
    · exact hu
  · exact fun hu => ⟨.inr hu, hx u hu⟩
/-- Of two with one line there is one. -/
theorem rising_one {L : List Tk} (h : Rising L) {t u : Tk} (ht : t ∈ L) (hu : u ∈ L) (e : t.1 = u.1) : t = u := by
  induction L with
  | nil => cases ht
  | cons s r ih =>
    have h1 := List.pairwise_cons.1 h
    rcases List.mem_cons.1 ht with rfl | ht2
    · rcases List.mem_cons.1 hu with rfl | hu2
      · rfl
      · have := h1.1 u hu2
        omega
    · rcases List.mem_cons.1 hu with rfl | hu2
      · have := h1.1 t ht2
        omega
      · exact ih h1.2 ht2 hu2
theorem put_give {L : List Tk} {x c : Int} (h : Rising L) (hx : (x, c) ∈ L) : putL (giveL L x) x c = L := by
  refine rising_ext (rising_putL (rising_giveL h) (fun t ht => (mem_giveL.1 ht).2)) h fun u => ?_
  rw [mem_putL, mem_giveL]
  constructor
  · rintro (rfl | hu)
    · exact hx
    · exact hu.1
  · intro hu
    by_cases e : u.1 = x
    · exact .inl (rising_one h hu hx e)
    · exact .inr ⟨hu, e⟩
theorem ofL_none {L : List Tk} {x : Int} : ofL L x = none ↔ ∀ t ∈ L, t.1 ≠ x := by simp [ofL]
theorem ofL_some {L : List Tk} {x c : Int} (h : Rising L) : ofL L x = some c ↔ (x, c) ∈ L := by
  constructor
  · intro e
    obtain ⟨t, ht, rfl⟩ := Option.map_eq_some_iff.1 e
    have h1 := List.find?_some ht
    have h2 := List.mem_of_find?_eq_some ht
    simp only [beq_iff_eq] at h1
    rw [← h1]
    exact h2
  · intro hm
    cases e : ofL L x with
    | none => exact absurd rfl (ofL_none.1 e _ hm)
    | some d =>
      obtain ⟨t, ht, rfl⟩ := Option.map_eq_some_iff.1 e
      have h1 := List.find?_some ht
      have h2 := List.mem_of_find?_eq_some ht
      simp only [beq_iff_eq] at h1
      have := rising_one h h2 hm h1
      rw [this]

/-- What a pool of n slabs is at any time. -/
structure Pool7 (n : Nat) (L : List Tk) : Prop where
  rising : Rising L
  home : ∀ t ∈ L, homeN t.1 t.2 = true
  slab : ∀ t ∈ L, slabOfN t.1 < n
  one : ∀ t ∈ L, ∀ u ∈ L, slabOfN t.1 = slabOfN u.1 → t.2 = u.2
theorem pool_nil (n : Nat) : Pool7 n [] := ⟨rising_nil, fun t h => (by cases h), fun t h => (by cases h), fun t h => (by cases h)⟩
theorem home_cls {x c : Int} (h : homeN x c = true) : 0 ≤ slabOfN x ∧ spanN c ≠ 0 ∧ 0 ≤ c ∧ c ≤ 3 := by
  have h1 : ¬ (slabOfN x < 0 ∨ spanN c = 0) := fun e => by rw [homeN_no e] at h; cases h
  have h2 : ¬ (c < 0 ∨ 3 < c) := fun e => h1 (.inr (spanN_none e))
  exact ⟨by omega, fun e => h1 (.inr e), by omega, by omega⟩
theorem clsAt_none {n : Nat} {L : List Tk} (h : Pool7 n L) {k : Int} : clsAt L k = -1 ↔ ∀ t ∈ L, slabOfN t.1 ≠ k := by
  unfold clsAt
  cases e : L.find? fun t => slabOfN t.1 == k with
  | none =>
    simp only [true_iff]
    intro t ht
    have := List.find?_eq_none.1 e t ht
    simpa using this
  | some t =>
    have h1 := List.find?_some e
    have h2 := List.mem_of_find?_eq_some e
    simp only [beq_iff_eq] at h1
    have h3 := home_cls (h.home t h2)
    constructor
    · intro e2
      simp only at e2
      omega
    · intro h4
      exact absurd h1 (h4 t h2)
theorem clsAt_mem {n : Nat} {L : List Tk} (h : Pool7 n L) {t : Tk} (ht : t ∈ L) : clsAt L (slabOfN t.1) = t.2 := by
  unfold clsAt
  cases e : L.find? fun u => slabOfN u.1 == slabOfN t.1 with
  | none =>
    have := List.find?_eq_none.1 e t ht
    simp at this
  | some u =>
    have h1 := List.find?_some e
    have h2 := List.mem_of_find?_eq_some e
    simp only [beq_iff_eq] at h1
    exact h.one u h2 t ht h1
theorem clsAt_cases {n : Nat} {L : List Tk} (h : Pool7 n L) (k : Int) : clsAt L k = -1 ∨ ∃ t ∈ L, slabOfN t.1 = k ∧ clsAt L k = t.2 := by
  rcases Classical.em (∃ t ∈ L, slabOfN t.1 = k) with ⟨t, ht, rfl⟩ | hn
  · exact .inr ⟨t, ht, rfl, clsAt_mem h ht⟩
  · exact .inl ((clsAt_none h).2 fun t ht e => hn ⟨t, ht, e⟩)
theorem clsAt_range {n : Nat} {L : List Tk} (h : Pool7 n L) (k : Int) : -1 ≤ clsAt L k ∧ clsAt L k ≤ 3 := by
  rcases clsAt_cases h k with e | ⟨t, ht, _, e⟩
  · omega
  · have := home_cls (h.home t ht)
    omega
/-- A block put in where it may be. -/
theorem pool_put {n : Nat} {L : List Tk} (h : Pool7 n L) {x c : Int} (hh : homeN x c = true) (hs : slabOfN x < n) (hx : ∀ t ∈ L, t.1 ≠ x) (hc : clsAt L (slabOfN x) = -1 ∨ clsAt L (slabOfN x) = c) : Pool7 n (putL L x c) := by
  have key : ∀ t ∈ L, slabOfN t.1 = slabOfN x → t.2 = c := fun t ht e => by
    have h1 := clsAt_mem h ht
    rw [e] at h1
    rcases hc with hc | hc
    · exact absurd e ((clsAt_none h).1 hc t ht)
    · omega
  refine ⟨rising_putL h.rising hx, fun t ht => ?_, fun t ht => ?_, fun t ht u hu e => ?_⟩
  · rcases mem_putL.1 ht with rfl | ht
    · exact hh
    · exact h.home t ht
  · rcases mem_putL.1 ht with rfl | ht
    · exact hs
    · exact h.slab t ht
  · rcases mem_putL.1 ht with rfl | ht <;> rcases mem_putL.1 hu with rfl | hu
    · rfl
    · exact (key u hu e.symm).symm
    · exact key t ht e
    · exact h.one t ht u hu e
theorem pool_give {n : Nat} {L : List Tk} (h : Pool7 n L) (x : Int) : Pool7 n (giveL L x) :=
  ⟨rising_giveL h.rising, fun t ht => h.home t (mem_giveL.1 ht).1, fun t ht => h.slab t (mem_giveL.1 ht).1, fun t ht u hu e => h.one t (mem_giveL.1 ht).1 u (mem_giveL.1 hu).1 e⟩

/-- Where blocks of class c begin in slab k, and no others. -/
theorem mem_starts {k c x : Int} (h : x ∈ startsN k c) : 0 ≤ k ∧ k ≤ 31 ∧ slabOfN x = k ∧ homeN x c = true ∧ 2 + 8 * k ≤ x ∧ x + spanN c ≤ 2 + 8 * k + 8 := by
  unfold startsN at h
  split at h
  · rename_i hk
    obtain ⟨i, hi, rfl⟩ := List.mem_map.1 h
    rw [List.mem_range] at hi
    have hs0 : spanN c ≠ 0 := fun e => by rw [e] at hi; simp at hi
    have h1 : i * spanN c + spanN c ≤ 8 := by
      have h2 : (i + 1) * spanN c ≤ (8 / spanN c) * spanN c := Nat.mul_le_mul_right _ hi
      have h3 := Nat.div_mul_le_self 8 (spanN c)
      rw [Nat.add_mul, Nat.one_mul] at h2
      omega
    have hsl : slabOfN (2 + 8 * k + (i * spanN c : Nat)) = k := by
      unfold slabOfN
      rw [if_pos (by omega)]
      omega
    refine ⟨hk.1, hk.2, hsl, ?_, by omega, by omega⟩
    unfold homeN
    rw [hsl, decide_eq_true_iff]
    unfold startsN
    rw [if_pos hk]
    exact List.mem_map.2 ⟨i, List.mem_range.2 hi, rfl⟩
  · cases h
theorem home_starts {x c : Int} (h : homeN x c = true) : x ∈ startsN (slabOfN x) c := of_decide_eq_true h
theorem starts_rising (k c : Int) : (startsN k c).Pairwise (· < ·) := by
  rcases Nat.eq_zero_or_pos (spanN c) with e | e
  · rw [startsN_none e]
    exact List.Pairwise.nil
  · unfold startsN
    split
    · rw [List.pairwise_map]
      refine List.Pairwise.imp (R := (· < ·)) (fun {a b} hab => ?_) List.pairwise_lt_range
      have := Nat.mul_lt_mul_of_pos_right hab e
      omega
    · exact List.Pairwise.nil
theorem mem_freeAt {L : List Tk} {k c x : Int} : x ∈ freeAt L k c ↔ clsAt L k = c ∧ x ∈ startsN k c ∧ ∀ t ∈ L, t.1 ≠ x := by
  unfold freeAt
  split
  · rename_i h
    simp only [List.mem_filter, Option.isNone_iff_eq_none, ofL_none, h, true_and]
  · rename_i h
    simp [h]
theorem mem_freeL {n : Nat} {L : List Tk} {c x : Int} : x ∈ freeL n L c ↔ ∃ k : Nat, k < n ∧ clsAt L k = c ∧ x ∈ startsN k c ∧ ∀ t ∈ L, t.1 ≠ x := by
  unfold freeL
  simp only [List.mem_flatMap, List.mem_range, mem_freeAt]
theorem free_rising (n : Nat) (L : List Tk) (c : Int) : (freeL n L c).Pairwise (· < ·) := by
  unfold freeL
  rw [List.pairwise_flatMap]
  refine ⟨fun k _ => ?_, ?_⟩
  · unfold freeAt
    split
    · exact List.Pairwise.filter _ (starts_rising _ _)
    · exact List.Pairwise.nil
  · refine List.Pairwise.imp (R := (· < ·)) (fun {a b} hab x hx y hy => ?_) List.pairwise_lt_range
    have h1 := mem_starts (mem_freeAt.1 hx).2.1
    have h2 := mem_starts (mem_freeAt.1 hy).2.1
    have h3 := (home_cls h1.2.2.2.1).2.1
    omega
theorem whole_some {n : Nat} {L : List Tk} {k : Nat} (h : wholeL n L = some k) : k < n ∧ clsAt L k = -1 ∧ ∀ j : Nat, j < k → clsAt L j ≠ -1 := by
  unfold wholeL at h
  have h1 := List.find?_some h
  have h2 := List.mem_of_find?_eq_some h
  simp only [beq_iff_eq] at h1
  refine ⟨List.mem_range.1 h2, h1, fun j hj e => ?_⟩
  obtain ⟨_, xs, ys, e1, e2⟩ := List.find?_eq_some_iff_append.1 h
  have hj2 : j ∈ xs := by
    have hjm : j ∈ List.range n := List.mem_range.2 (by have := List.mem_range.1 h2; omega)
    rw [e1] at hjm
    rcases List.mem_append.1 hjm with h3 | h3
    · exact h3
    · exfalso
      have hp := List.pairwise_lt_range (n := n)
      rw [e1] at hp
      have hp2 := (List.pairwise_append.1 hp).2.1
      have hp3 := List.pairwise_cons.1 hp2
      rcases List.mem_cons.1 h3 with h4 | h4
      · omega
      · have := hp3.1 j h4
        omega
  have := e2 j hj2
  rw [e] at this
  simp at this
theorem whole_none {n : Nat} {L : List Tk} (h : wholeL n L = none) (k : Nat) (hk : k < n) : clsAt L k ≠ -1 := by
  have := List.find?_eq_none.1 h k (List.mem_range.2 hk)
  simpa using this
theorem next_free {n : Nat} {L : List Tk} {c x : Int} {r : List Int} (h : freeL n L c = x :: r) : nextL n L c = x := by unfold nextL; rw [h]
theorem next_whole {n : Nat} {L : List Tk} {c : Int} {k : Nat} (h : freeL n L c = []) (hk : wholeL n L = some k) (hn : n ≤ 32) : nextL n L c = 2 + 8 * (k : Int) := by
  have h1 := (whole_some hk).1
  have h2 : nextL n L c = slabN k := by unfold nextL; rw [h, hk]
  rw [h2, slabN, if_pos (by omega)]
theorem next_none {n : Nat} {L : List Tk} {c : Int} (h : freeL n L c = []) (hk : wholeL n L = none) : nextL n L c = -1 := by unfold nextL; rw [h, hk]
theorem cls_span {c : Int} (h : 0 ≤ c ∧ c ≤ 3) : spanN c ≠ 0 := by have := spanN_some (c := c) (by omega); omega
theorem first_start {k c : Int} (hk : 0 ≤ k ∧ k ≤ 31) (hc : 0 ≤ c ∧ c ≤ 3) : 2 + 8 * k ∈ startsN k c := by
  have hs := spanN_some (c := c) (by omega)
  unfold startsN
  rw [if_pos hk]
  refine List.mem_map.2 ⟨0, List.mem_range.2 ?_, by simp⟩
  rcases hs with e | e | e | e <;> rw [e] <;> decide
/-- What is taken next may be taken. -/
theorem next_ok {n : Nat} {L : List Tk} (h : Pool7 n L) (hn : n ≤ 32) {c : Int} (hc : 0 ≤ c ∧ c ≤ 3) (hx : 0 ≤ nextL n L c) :
    homeN (nextL n L c) c = true ∧ slabOfN (nextL n L c) < n ∧ (∀ t ∈ L, t.1 ≠ nextL n L c) ∧ (clsAt L (slabOfN (nextL n L c)) = -1 ∨ clsAt L (slabOfN (nextL n L c)) = c) := by
  cases e : freeL n L c with
  | cons x r =>
    have hm : x ∈ freeL n L c := by rw [e]; simp
    obtain ⟨k, hk, hcl, hst, hno⟩ := mem_freeL.1 hm
    obtain ⟨_, _, h3, h4, _⟩ := mem_starts hst
    rw [next_free e, h3]
    exact ⟨h4, by omega, hno, .inr hcl⟩
  | nil =>
    cases e2 : wholeL n L with
    | none =>
      rw [next_none e e2] at hx
      omega
    | some k =>
      obtain ⟨h1, h2, _⟩ := whole_some e2
      obtain ⟨_, _, h5, h6, _⟩ := mem_starts (first_start (k := k) (c := c) (by omega) hc)
      rw [next_whole e e2 hn, h5]
      refine ⟨h6, by omega, fun t ht he => (clsAt_none h).1 h2 t ht ?_, .inl h2⟩
      rw [he, h5]
theorem pool_take {n : Nat} {L : List Tk} (h : Pool7 n L) (hn : n ≤ 32) {c : Int} (hc : 0 ≤ c ∧ c ≤ 3) (hx : 0 ≤ nextL n L c) : Pool7 n (putL L (nextL n L c) c) := by
  obtain ⟨h1, h2, h3, h4⟩ := next_ok h hn hc hx
  exact pool_put h h1 h2 h3 h4
/-- There is room just if a block of the class is free, or a slab is whole. -/
theorem next_room {n : Nat} {L : List Tk} (hn : n ≤ 32) (c : Int) : 0 ≤ nextL n L c ↔ freeL n L c ≠ [] ∨ ∃ k : Nat, k < n ∧ clsAt L k = -1 := by
  cases e : freeL n L c with
  | cons x r =>
    have hm : x ∈ freeL n L c := by rw [e]; simp
    obtain ⟨k, hk, hcl, hst, hno⟩ := mem_freeL.1 hm
    have := mem_starts hst
    rw [next_free e]
    constructor
    · exact fun _ => .inl (by simp)
    · exact fun _ => by omega
  | nil =>
    cases e2 : wholeL n L with
    | none =>
      rw [next_none e e2]
      constructor
      · intro h1
        omega
      · rintro (h1 | ⟨k, hk, h2⟩)
        · exact absurd rfl h1
        · exact absurd h2 (whole_none e2 k hk)
    | some k =>
      obtain ⟨h1, h2, _⟩ := whole_some e2
      rw [next_whole e e2 hn]
      exact ⟨fun _ => .inr ⟨k, h1, h2⟩, fun _ => by omega⟩
/-- Taken blocks have no line in common. -/
theorem pool_apart {n : Nat} {L : List Tk} (h : Pool7 n L) {t u : Tk} (ht : t ∈ L) (hu : u ∈ L) (hlt : t.1 < u.1) : t.1 + spanN t.2 ≤ u.1 := by
  have h1 := mem_starts (home_starts (h.home t ht))
  have h2 := mem_starts (home_starts (h.home u hu))
  rcases Classical.em (slabOfN t.1 = slabOfN u.1) with e | e
  · have e2 := h.one t ht u hu e
    have h3 := home_starts (h.home t ht)
    have h4 := home_starts (h.home u hu)
    rw [← e, ← e2] at h4
    unfold startsN at h3 h4
    rw [if_pos (by omega)] at h3 h4
    obtain ⟨i, _, e3⟩ := List.mem_map.1 h3
    obtain ⟨j, _, e4⟩ := List.mem_map.1 h4
    have hij : i < j := by
      rcases Nat.lt_or_ge i j with h5 | h5
      · exact h5
      · have := Nat.mul_le_mul_right (spanN t.2) h5
        omega
    have := Nat.mul_le_mul_right (spanN t.2) (show i + 1 ≤ j from hij)
    rw [Nat.add_mul, Nat.one_mul] at this
    omega
  · omega
theorem give_head {t : Tk} {r : List Tk} (h : Rising (t :: r)) : giveL (t :: r) t.1 = r := by
  have h1 := List.pairwise_cons.1 h
  unfold giveL
  rw [List.filter_cons, if_neg (by simp)]
  refine List.filter_eq_self.2 fun u hu => ?_
  have := h1.1 u hu
  simp
  omega
theorem pool_sub {n : Nat} {L R : List Tk} (h : Pool7 n L) (hr : Rising R) (hs : ∀ t ∈ R, t ∈ L) : Pool7 n R :=
  ⟨hr, fun t ht => h.home t (hs t ht), fun t ht => h.slab t (hs t ht), fun t ht u hu e => h.one t (hs t ht) u (hs u hu) e⟩
/-- What Mark answers: 1, 7 or 0. -/
def markE (n : Nat) (L : List Tk) (x c : Int) : Int := if homeN x c = false ∨ (n : Int) ≤ slabOfN x then 1 else if (ofL L x).isSome ∨ (0 ≤ clsAt L (slabOfN x) ∧ clsAt L (slabOfN x) ≠ c) then 7 else 0
theorem mark_ok {n : Nat} {L : List Tk} (h : Pool7 n L) {x c : Int} (e : markE n L x c = 0) : Pool7 n (putL L x c) := by
  unfold markE at e
  split at e
  · cases e
  · rename_i h1
    split at e
    · cases e
    · rename_i h2
      have h3 := clsAt_range h (slabOfN x)
      have hof : ofL L x = none := by
        cases e2 : ofL L x with
        | none => rfl
        | some d => exact absurd (.inl (by rw [e2]; rfl)) h2
      refine pool_put h (by cases e3 : homeN x c with | true => rfl | false => exact absurd (.inl e3) h1) (by omega) (ofL_none.1 hof) ?_
      rcases Classical.em (clsAt L (slabOfN x) = c) with h4 | h4
      · exact .inr h4
      · refine .inl ?_
        have : ¬ 0 ≤ clsAt L (slabOfN x) := fun h5 => h2 (.inr ⟨h5, h4⟩)
        omega
/-- A block of a pool may be marked where it is not yet; again it is refused. -/
theorem mark_sub {n : Nat} {L R : List Tk} (h : Pool7 n L) (hr : Rising R) (hs : ∀ t ∈ R, t ∈ L) {t : Tk} (ht : t ∈ L) (hn : t ∉ R) : markE n R t.1 t.2 = 0 := by
  have hp := pool_sub h hr hs
  unfold markE
  have h1 := h.slab t ht
  rw [if_neg (by rw [h.home t ht]; simp; omega), if_neg]
  rintro (h2 | ⟨h2, h3⟩)
  · obtain ⟨d, hd⟩ := Option.isSome_iff_exists.1 h2
    have h4 := (ofL_some hr).1 hd
    have h5 := rising_one h.rising (hs _ h4) ht rfl
    rw [← h5] at hn
    exact hn h4
  · rcases clsAt_cases hp (slabOfN t.1) with e | ⟨u, hu, e1, e2⟩
    · omega
    · have := h.one u (hs u hu) t ht e1
      omega
theorem mark_again {n : Nat} {L : List Tk} (h : Pool7 n L) {t : Tk} (ht : t ∈ L) : markE n L t.1 t.2 = 7 := by
  unfold markE
  have h1 := h.slab t ht
  rw [if_neg (by rw [h.home t ht]; simp; omega), if_pos]
  refine .inl ?_
  rw [(ofL_some h.rising).2 (show (t.1, t.2) ∈ L from ht)]
  rfl
theorem clsAt_nil (k : Int) : clsAt [] k = -1 := rfl
theorem free_nil (n : Nat) {c : Int} (hc : 0 ≤ c) : freeL n [] c = [] := by
  cases e : freeL n [] c with
  | nil => rfl
  | cons x r =>
    have hm : x ∈ freeL n [] c := by rw [e]; simp
    obtain ⟨k, _, h1, _⟩ := mem_freeL.1 hm
    rw [clsAt_nil] at h1
    omega
theorem next_nil {n : Nat} (h1 : 1 ≤ n) (hn : n ≤ 32) {c : Int} (hc : 0 ≤ c) : nextL n [] c = 2 := by
  cases e : wholeL n [] with
  | none => exact absurd (clsAt_nil 0) (whole_none e 0 (by omega))
  | some k =>
    have h2 := (whole_some e).2.2
    have hk : k = 0 := by
      rcases Nat.eq_zero_or_pos k with h3 | h3
      · exact h3
      · exact absurd (clsAt_nil 0) (h2 0 h3)
    subst hk
    rw [next_whole (free_nil n hc) e hn]
    rfl

end Go.Proofs.Ytjebpggoajfjkaa
