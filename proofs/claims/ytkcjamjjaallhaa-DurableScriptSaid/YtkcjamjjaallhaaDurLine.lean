/-
  Proved here: what the laws DurableOrder and DurableCloses ask, of a clock's and a device's numbers and lines alone.
  Conditions: none.
-/
import Derived.Test.YtkcjamjjaallhaaDurMath
namespace Go.Proofs.Ytkcjamjjaallhaa
open Go Go.RowKit

def Fl (c : Cl) : Prop := c.on = true ∧ c.f = c.v
def Sf (c : Cl) : Prop := c.v = c.p ∧ (c.on = true → c.f = c.v)
def Good (c : Cl) : Prop := Sf c ∨ Fl c
theorem Cl.flush_fl (c : Cl) : Fl c.flush := ⟨rfl, rfl⟩
theorem Sf.flush {c : Cl} (h : Sf c) : Sf c.flush := ⟨h.1, fun _ => rfl⟩
theorem Cl.back_sf (c : Cl) : Sf c.back := ⟨rfl, fun h => by cases h⟩
theorem Good.fence {c : Cl} (h : Good c) : Sf c.fence := by
  unfold Cl.fence
  split
  · rename_i ho
    refine ⟨?_, fun h => by cases h⟩
    rcases h with h | h
    · exact (h.2 ho).symm
    · exact h.2.symm
  · rename_i ho
    rcases h with h | h
    · exact h
    · exact absurd h.1 ho
theorem Fl.fence {c : Cl} (h : Fl c) : c.fence.v = c.fence.p ∧ c.fence.on = false := by
  unfold Cl.fence
  rw [if_pos h.1]
  exact ⟨h.2.symm, rfl⟩
theorem still_fence {c : Cl} (h : c.v = c.p ∧ c.on = false) : c.fence.v = c.fence.p ∧ c.fence.on = false := by
  unfold Cl.fence
  rw [if_neg (by rw [h.2]; decide)]
  exact h
theorem store_other (s : St) (x y : Int) (b : List UInt8) (j : Nat) (h : x ≠ (j : Int)) : clAt (s.store x y b).1 (j : Int) = clAt s.1 (j : Int) := by
  unfold St.store
  split
  · rename_i hh
    rw [Bool.and_eq_true] at hh
    obtain ⟨i, rfl, hi⟩ := has_true hh.1
    rw [Int.toNat_natCast, clAt_set _ _ _ _ hi, if_neg (by omega)]
  · rfl
theorem flush_other (s : St) (x : Int) (j : Nat) (h : x ≠ (j : Int)) : clAt (s.flush x).1 (j : Int) = clAt s.1 (j : Int) := by
  unfold St.flush
  split
  · rename_i hh
    obtain ⟨i, rfl, hi⟩ := has_true hh
    rw [Int.toNat_natCast, clAt_set _ _ _ _ hi, if_neg (by omega)]
  · rfl
theorem flush_same (s : St) (j : Nat) (hj : j < s.1.length) : clAt (s.flush (j : Int)).1 (j : Int) = (clAt s.1 (j : Int)).flush := by rw [St.flush_at _ _ _ hj, if_pos rfl]
theorem back_other (s : St) (x : Int) (j : Nat) (h : x ≠ (j : Int)) : clAt (s.back x).1 (j : Int) = clAt s.1 (j : Int) := by
  unfold St.back
  split
  · rename_i hh
    obtain ⟨i, rfl, hi⟩ := has_true hh
    rw [Int.toNat_natCast, clAt_set _ _ _ _ hi, if_neg (by omega)]
  · rfl
theorem back_same (s : St) (j : Nat) (hj : j < s.1.length) : clAt (s.back (j : Int)).1 (j : Int) = (clAt s.1 (j : Int)).back := by rw [St.back_at _ _ _ hj, if_pos rfl]
theorem Ck.dev_len (c : Ck) (s : St) : (c.dev s).1.length = s.1.length := by
  unfold Ck.dev
  split
  · rfl
  split
  · exact St.flush_len _ _
  split
  · exact St.fence_len _
  split
  · exact St.store_len _ _ _ _
  split
  · exact St.flush_len _ _
  · exact St.fence_len _
theorem left_cons {c : Ck} (h : c.ok) (hp : c.ph = 1) : ∃ x l, c.left = x :: l := by
  have := h.some_.1 hp
  cases hl : c.left with
  | nil => exact absurd hl this
  | cons x l => exact ⟨x, l, rfl⟩
theorem nx_two {l : List Int} (h : nx l = 2) : l = [] := by
  unfold nx at h
  split at h
  · exact List.eq_nil_of_length_eq_zero ‹_›
  · cases h

/-! ### What the law DurableOrder asks -/
structure Ord (c : Ck) (s : St) : Prop where
  len : s.1.length = 30
  p1 : c.ph = 1 → ∀ i : Nat, 2 ≤ i → i < 30 → (i : Int) ∈ c.left ∨ Good (clAt s.1 (i : Int))
  p2 : c.ph = 2 → ∀ i : Nat, 2 ≤ i → i < 30 → Good (clAt s.1 (i : Int))
  p3 : c.ph = 0 ∨ 3 ≤ c.ph → ∀ i : Nat, 2 ≤ i → i < 30 → Sf (clAt s.1 (i : Int))
  q : 1 ≤ c.ph → c.ph ≤ 3 → clAt s.1 1 = Cl.zero
  lines : ∀ x ∈ c.left, 2 ≤ x
theorem zero_fence : Cl.zero.fence = Cl.zero := rfl
theorem zero_back : Cl.zero.back = Cl.zero := rfl
theorem Ord.step {c : Ck} {s : St} (h : Ord c s) (hc : c.ok) (hp : c.ph ≠ 0) : Ord c.step (c.dev s) := by
  have hl := h.len
  have h5 := hc.ph
  have hlen : (c.dev s).1.length = 30 := by rw [Ck.dev_len]; exact hl
  rcases (by omega : c.ph = 1 ∨ c.ph = 2 ∨ c.ph = 3 ∨ c.ph = 4 ∨ c.ph = 5) with e | e | e | e | e
  · obtain ⟨x, l, hxl⟩ := left_cons hc e
    have e1 : c.step = { c with left := l, ph := nx l } := by unfold Ck.step; simp [e, hxl]
    have e2 : c.dev s = s.flush x := by unfold Ck.dev; simp [e, hxl]
    have hx2 : 2 ≤ x := h.lines x (by rw [hxl]; simp)
    have hg : ∀ i : Nat, 2 ≤ i → i < 30 → (i : Int) ∈ l ∨ Good (clAt (s.flush x).1 (i : Int)) := by
      intro i h2 h3
      rcases Classical.em (x = (i : Int)) with rfl | hne
      · right; rw [flush_same _ _ (by omega)]; exact .inr (Cl.flush_fl _)
      · rw [flush_other _ _ _ hne]
        rcases h.p1 e i h2 h3 with h4 | h4
        · rw [hxl] at h4
          rcases List.mem_cons.1 h4 with h5 | h5
          · exact absurd h5.symm hne
          · exact .inl h5
        · exact .inr h4
    rw [e1, e2]
    rw [e2] at hlen
    refine ⟨hlen, fun _ => hg, fun h2 i h3 h4 => ?_, fun h2 => ?_, fun h2 h3 => ?_, fun y hy => h.lines y (by rw [hxl]; exact List.mem_cons_of_mem _ hy)⟩
    · rcases hg i h3 h4 with h5 | h5
      · rw [nx_two h2] at h5; cases h5
      · exact h5
    · have := nx_le l; simp only at h2; omega
    · have := flush_other s x 1 (by omega)
      rw [show ((1 : Nat) : Int) = 1 from rfl] at this
      rw [this]; exact h.q (by omega) (by omega)
  · have e1 : c.step = { c with ph := 3 } := by unfold Ck.step; simp [e]
    have e2 : c.dev s = s.fence := by unfold Ck.dev; simp [e]
    rw [e1, e2]
    rw [e2] at hlen
    refine ⟨hlen, fun h2 => (by simp at h2), fun h2 => (by simp at h2), fun _ i h3 h4 => ?_, fun _ _ => ?_, h.lines⟩
    · rw [St.fence_at _ _ (by omega)]; exact (h.p2 e i h3 h4).fence
    · have := St.fence_at s 1 (by omega)
      rw [show ((1 : Nat) : Int) = 1 from rfl] at this
      rw [this, h.q (by omega) (by omega)]; rfl
  · have e1 : c.step = { c with ph := 4 } := by unfold Ck.step; simp [e]
    have e2 : c.dev s = s.store 1 0 (clockL (c.dur + 1)) := by unfold Ck.dev; simp [e]
    rw [e1, e2]
    rw [e2] at hlen
    refine ⟨hlen, fun h2 => (by simp at h2), fun h2 => (by simp at h2), fun _ i h3 h4 => ?_, fun _ h2 => (by simp at h2), h.lines⟩
    rw [store_other _ _ _ _ _ (by omega)]; exact h.p3 (by omega) i h3 h4
  · have e1 : c.step = { c with ph := 5 } := by unfold Ck.step; simp [e]
    have e2 : c.dev s = s.flush 1 := by unfold Ck.dev; simp [e]
    rw [e1, e2]
    rw [e2] at hlen
    refine ⟨hlen, fun h2 => (by simp at h2), fun h2 => (by simp at h2), fun _ i h3 h4 => ?_, fun _ h2 => (by simp at h2), h.lines⟩
    rw [flush_other _ _ _ (by omega)]; exact h.p3 (by omega) i h3 h4
  · have e1 : c.step = { c with ph := 0, dur := c.dur + 1 } := by unfold Ck.step; simp [e]
    have e2 : c.dev s = s.fence := by unfold Ck.dev; simp [e]
    rw [e1, e2]
    rw [e2] at hlen
    refine ⟨hlen, fun h2 => (by simp at h2), fun h2 => (by simp at h2), fun _ i h3 h4 => ?_, fun h2 _ => (by simp at h2), h.lines⟩
    rw [St.fence_at _ _ (by omega)]; exact (show Good _ from .inl (h.p3 (by omega) i h3 h4)).fence
theorem Ord.back {c : Ck} {s : St} (h : Ord c s) (x : Int) : Ord c (s.back x) := by
  have hl := h.len
  have hb : ∀ i : Nat, i < 30 → clAt (s.back x).1 (i : Int) = clAt s.1 (i : Int) ∨ clAt (s.back x).1 (i : Int) = (clAt s.1 (i : Int)).back := by
    intro i hi
    rcases Classical.em (x = (i : Int)) with rfl | hne
    · exact .inr (back_same _ _ (by omega))
    · exact .inl (back_other _ _ _ hne)
  refine ⟨by rw [St.back_len]; exact hl, fun h1 i h2 h3 => ?_, fun h1 i h2 h3 => ?_, fun h1 i h2 h3 => ?_, fun h1 h2 => ?_, h.lines⟩
  · rcases hb i h3 with e | e <;> rw [e]
    · exact h.p1 h1 i h2 h3
    · exact .inr (.inl (Cl.back_sf _))
  · rcases hb i h3 with e | e <;> rw [e]
    · exact h.p2 h1 i h2 h3
    · exact .inl (Cl.back_sf _)
  · rcases hb i h3 with e | e <;> rw [e]
    · exact h.p3 h1 i h2 h3
    · exact Cl.back_sf _
  · have := hb 1 (by omega)
    rw [show ((1 : Nat) : Int) = 1 from rfl] at this
    rcases this with e | e <;> rw [e, h.q h1 h2]
    rfl
/-- Ahead of the closing: lines that were stored to are noted. -/
structure OrdA (c : Ck) (s : St) : Prop where
  len : s.1.length = 30
  ph : c.ph = 0
  good : ∀ i : Nat, 2 ≤ i → i < 30 → c.noted.getD i false = true ∨ clAt s.1 (i : Int) = Cl.zero
  q : clAt s.1 1 = Cl.zero
  low : ∀ i : Nat, c.noted.getD i false = true → 2 ≤ i ∧ i < 30
theorem zero_good : Good Cl.zero := .inl ⟨rfl, fun h => by cases h⟩
theorem getD_set_true (l : List Bool) (i j : Nat) (hi : i < l.length) : (l.set i true).getD j false = if i = j then true else l.getD j false := by
  simp only [List.getD, List.getElem?_set]
  split
  · first | rfl | (rw [if_pos (by omega)]; rfl)
  · rfl
theorem OrdA.note {c : Ck} {s : St} (h : OrdA c s) (hc : c.ok) (i : Nat) (h2 : 2 ≤ i) (h3 : i < 30) (y : Int) (b : List UInt8) : OrdA (c.note 0 (i : Int)) (s.store (i : Int) y b) := by
  have hin : inT c.owed 0 ∧ inLine (i : Int) := by have := hc.one; exact ⟨⟨by omega, by omega⟩, by omega, by omega⟩
  have e : (c.note 0 (i : Int)).noted = c.noted.set i true := by unfold Ck.note; rw [if_pos hin]; simp
  have hlen := hc.noted
  refine ⟨by rw [St.store_len]; exact h.len, by rw [Ck.note_ph]; exact h.ph, fun j h4 h5 => ?_, ?_, fun j hj => ?_⟩
  · rw [e, getD_set_true _ _ _ (by omega)]
    rcases Nat.decEq i j with hne | rfl
    · rw [if_neg hne, store_other _ _ _ _ _ (by omega)]; exact h.good j h4 h5
    · left; rw [if_pos rfl]
  · have := store_other s (i : Int) y b 1 (by omega)
    rw [show ((1 : Nat) : Int) = 1 from rfl] at this
    rw [this]; exact h.q
  · rw [e, getD_set_true _ _ _ (by omega)] at hj
    split at hj
    · omega
    · exact h.low j hj
theorem OrdA.begun {c : Ck} {s : St} (h : OrdA c s) : Ord c.begin_ s := by
  have e : c.begin_ = c.begun := by unfold Ck.begin_; rw [if_pos h.ph]
  rw [e]
  have hm : ∀ i : Nat, c.noted.getD i false = true → (i : Int) ∈ lin 0 c.noted := fun i hi => (lin_mem0 _ _).2 ⟨i, rfl, hi⟩
  have hg : ∀ i : Nat, 2 ≤ i → i < 30 → (i : Int) ∈ lin 0 c.noted ∨ Good (clAt s.1 (i : Int)) := fun i h2 h3 => by
    rcases h.good i h2 h3 with h4 | h4
    · exact .inl (hm i h4)
    · right; rw [h4]; exact zero_good
  refine ⟨h.len, fun _ => hg, fun h1 i h2 h3 => ?_, fun h1 => ?_, fun _ _ => h.q, fun x hx => ?_⟩
  · rcases hg i h2 h3 with h4 | h4
    · rw [nx_two h1] at h4; cases h4
    · exact h4
  · have := nx_le (lin 0 c.noted); simp only [Ck.begun] at h1; omega
  · obtain ⟨i, rfl, hi⟩ := (lin_mem0 _ _).1 hx
    have := h.low i hi
    omega
theorem OrdA.first {d : Nat} : OrdA (ck0 1 d) (fresh 30, five0) := by
  have hz : ∀ i : Nat, i < 30 → clAt (fresh 30) (i : Int) = Cl.zero := by
    intro i hi
    unfold clAt fresh
    rw [Int.toNat_natCast, List.getD, List.getElem?_replicate, if_pos hi]
    rfl
  refine ⟨by simp [fresh], rfl, fun i _ h3 => .inr (hz i h3), hz 1 (by omega), fun i hi => ?_⟩
  rw [show (ck0 1 d).noted = noLines from rfl, noLines_at] at hi
  cases hi

/-! ### What the law DurableCloses asks -/
structure Cls (N : List Bool) (c : Ck) (s : St) : Prop where
  len : s.1.length = 40
  low : ∀ i : Nat, N.getD i false = true → 2 ≤ i ∧ i < 40
  p1 : c.ph = 1 → ∀ i : Nat, N.getD i false = true → (i : Int) ∈ c.left ∨ Fl (clAt s.1 (i : Int))
  p2 : c.ph = 2 → ∀ i : Nat, N.getD i false = true → Fl (clAt s.1 (i : Int))
  p3 : c.ph = 0 ∨ 3 ≤ c.ph → ∀ i : Nat, N.getD i false = true → (clAt s.1 (i : Int)).v = (clAt s.1 (i : Int)).p ∧ (clAt s.1 (i : Int)).on = false
  v1 : (clAt s.1 1).v.length = 64
  q4 : c.ph = 4 → (clAt s.1 1).v = clockL 8
  q5 : c.ph = 5 → (clAt s.1 1).on = true ∧ (clAt s.1 1).f = clockL 8
  q0 : c.ph = 0 → (clAt s.1 1).p = clockL 8 ∧ c.dur = 8
  dur : c.ph ≠ 0 → c.dur = 7
  lines : ∀ x ∈ c.left, 2 ≤ x
theorem at_one (s : St) : clAt s.1 ((1 : Nat) : Int) = clAt s.1 1 := rfl
theorem Cls.other {N : List Bool} {c : Ck} {s : St} (h : Cls N c s) (x y : Int) (b : List UInt8) (hx : 2 ≤ x) (hn : N.getD x.toNat false = false) : Cls N c (s.store x y b) := by
  have hi : ∀ i : Nat, N.getD i false = true → clAt (s.store x y b).1 (i : Int) = clAt s.1 (i : Int) := fun i hi => store_other _ _ _ _ _ (by
    intro e; subst e; rw [Int.toNat_natCast, hi] at hn; cases hn)
  have h1 : clAt (s.store x y b).1 1 = clAt s.1 1 := store_other s x y b 1 (by omega)
  exact ⟨by rw [St.store_len]; exact h.len, h.low, fun e i hN => by rw [hi i hN]; exact h.p1 e i hN, fun e i hN => by rw [hi i hN]; exact h.p2 e i hN, fun e i hN => by rw [hi i hN]; exact h.p3 e i hN,
    by rw [h1]; exact h.v1, fun e => by rw [h1]; exact h.q4 e, fun e => by rw [h1]; exact h.q5 e, fun e => by rw [h1]; exact h.q0 e, h.dur, h.lines⟩
theorem fence_v (c : Cl) : c.fence.v = c.v := by unfold Cl.fence; split <;> rfl
theorem Cls.step {N : List Bool} {c : Ck} {s : St} (h : Cls N c s) (hc : c.ok) (hp : c.ph ≠ 0) : Cls N c.step (c.dev s) := by
  have hl := h.len
  have h5 := hc.ph
  have hd := h.dur hp
  have hlen : (c.dev s).1.length = 40 := by rw [Ck.dev_len]; exact hl
  rcases (by omega : c.ph = 1 ∨ c.ph = 2 ∨ c.ph = 3 ∨ c.ph = 4 ∨ c.ph = 5) with e | e | e | e | e
  · obtain ⟨x, l, hxl⟩ := left_cons hc e
    have e1 : c.step = { c with left := l, ph := nx l } := by unfold Ck.step; simp [e, hxl]
    have e2 : c.dev s = s.flush x := by unfold Ck.dev; simp [e, hxl]
    have hx2 : 2 ≤ x := h.lines x (by rw [hxl]; simp)
    have hg : ∀ i : Nat, N.getD i false = true → (i : Int) ∈ l ∨ Fl (clAt (s.flush x).1 (i : Int)) := by
      intro i hN
      have hlo := h.low i hN
      rcases Classical.em (x = (i : Int)) with rfl | hne
      · right; rw [flush_same _ _ (by omega)]; exact Cl.flush_fl _
      · rw [flush_other _ _ _ hne]
        rcases h.p1 e i hN with h4 | h4
        · rw [hxl] at h4
          rcases List.mem_cons.1 h4 with h5 | h5
          · exact absurd h5.symm hne
          · exact .inl h5
        · exact .inr h4
    have h1 : clAt (s.flush x).1 1 = clAt s.1 1 := flush_other s x 1 (by omega)
    have hn := nx_le l
    rw [e1, e2]
    rw [e2] at hlen
    refine ⟨hlen, h.low, fun _ => hg, fun h2 i hN => ?_, fun h2 => by simp only at h2; omega, by rw [h1]; exact h.v1, fun h2 => by simp only at h2; omega, fun h2 => by simp only at h2; omega, fun h2 => by simp only at h2; omega, fun _ => hd, fun y hy => h.lines y (by rw [hxl]; exact List.mem_cons_of_mem _ hy)⟩
    rcases hg i hN with h5 | h5
    · rw [nx_two h2] at h5; cases h5
    · exact h5
  · have e1 : c.step = { c with ph := 3 } := by unfold Ck.step; simp [e]
    have e2 : c.dev s = s.fence := by unfold Ck.dev; simp [e]
    have h1 : clAt s.fence.1 1 = (clAt s.1 1).fence := St.fence_at s 1 (by omega)
    rw [e1, e2]
    rw [e2] at hlen
    refine ⟨hlen, h.low, fun h2 => (by simp at h2), fun h2 => (by simp at h2), fun _ i hN => ?_, by rw [h1, fence_v]; exact h.v1, fun h2 => (by simp at h2), fun h2 => (by simp at h2), fun h2 => (by simp at h2), fun _ => hd, h.lines⟩
    have hlo := h.low i hN
    rw [St.fence_at _ _ (by omega)]; exact (h.p2 e i hN).fence
  · have e1 : c.step = { c with ph := 4 } := by unfold Ck.step; simp [e]
    have e2 : c.dev s = s.store 1 0 (clockL 8) := by unfold Ck.dev; simp [e, hd]
    have hcl : (clockL 8).length = 64 := clockL_len 8
    have h1 : clAt (s.store 1 0 (clockL 8)).1 1 = (clAt s.1 1).store 0 (clockL 8) := by
      have := St.store_at s 1 1 (clockL 8) (by omega) (by omega)
      rw [if_pos rfl] at this
      exact this
    have hv : ((clAt s.1 1).store 0 (clockL 8)).v = clockL 8 := by
      have hv1 := h.v1
      simp only [Cl.store, List.take_zero, List.nil_append, Nat.zero_add]
      rw [List.drop_of_length_le (by omega), List.append_nil]
    rw [e1, e2]
    rw [e2] at hlen
    refine ⟨hlen, h.low, fun h2 => (by simp at h2), fun h2 => (by simp at h2), fun _ i hN => ?_, by rw [h1, hv]; exact hcl, fun _ => by rw [h1, hv], fun h2 => (by simp at h2), fun h2 => (by simp at h2), fun _ => hd, h.lines⟩
    have hlo := h.low i hN
    rw [store_other _ _ _ _ _ (by omega)]; exact h.p3 (by omega) i hN
  · have e1 : c.step = { c with ph := 5 } := by unfold Ck.step; simp [e]
    have e2 : c.dev s = s.flush 1 := by unfold Ck.dev; simp [e]
    have h1 : clAt (s.flush 1).1 1 = (clAt s.1 1).flush := flush_same s 1 (by omega)
    rw [e1, e2]
    rw [e2] at hlen
    refine ⟨hlen, h.low, fun h2 => (by simp at h2), fun h2 => (by simp at h2), fun _ i hN => ?_, by rw [h1]; exact h.v1, fun h2 => (by simp at h2), fun _ => by rw [h1]; exact ⟨rfl, h.q4 e⟩, fun h2 => (by simp at h2), fun _ => hd, h.lines⟩
    have hlo := h.low i hN
    rw [flush_other _ _ _ (by omega)]; exact h.p3 (by omega) i hN
  · have e1 : c.step = { c with ph := 0, dur := c.dur + 1 } := by unfold Ck.step; simp [e]
    have e2 : c.dev s = s.fence := by unfold Ck.dev; simp [e]
    have h1 : clAt s.fence.1 1 = (clAt s.1 1).fence := St.fence_at s 1 (by omega)
    have hq := h.q5 e
    rw [e1, e2]
    rw [e2] at hlen
    refine ⟨hlen, h.low, fun h2 => (by simp at h2), fun h2 => (by simp at h2), fun _ i hN => ?_, by rw [h1, fence_v]; exact h.v1, fun h2 => (by simp at h2), fun h2 => (by simp at h2), fun _ => ?_, fun h2 => absurd rfl h2, h.lines⟩
    · have hlo := h.low i hN
      rw [St.fence_at _ _ (by omega)]; exact still_fence (h.p3 (by omega) i hN)
    · rw [h1]
      refine ⟨?_, by show c.dur + 1 = 8; omega⟩
      unfold Cl.fence
      rw [if_pos hq.1]
      exact hq.2
/-- Ahead of the closing. -/
structure ClsA (c : Ck) (s : St) : Prop where
  len : s.1.length = 40
  ph : c.ph = 0
  dur : c.dur = 7
  v1 : (clAt s.1 1).v.length = 64
  low : ∀ i : Nat, c.noted.getD i false = true → 2 ≤ i ∧ i < 40
theorem ClsA.note {c : Ck} {s : St} (h : ClsA c s) (hc : c.ok) (i : Nat) (t : Int) (h2 : 2 ≤ i) (h3 : i < 40) (ht : inT c.owed t) (y : Int) (b : List UInt8) : ClsA (c.note t (i : Int)) (s.store (i : Int) y b) ∧ (c.note t (i : Int)).noted = c.noted.set i true ∧ c.noteE t (i : Int) = 0 := by
  have hin : inLine (i : Int) := ⟨by omega, by omega⟩
  have e : (c.note t (i : Int)).noted = c.noted.set i true := by unfold Ck.note; rw [if_pos ⟨ht, hin⟩]; simp
  have hlen := hc.noted
  refine ⟨⟨by rw [St.store_len]; exact h.len, by rw [Ck.note_ph]; exact h.ph, by rw [Ck.note_dur]; exact h.dur, ?_, fun j hj => ?_⟩, e, by unfold Ck.noteE; rw [if_pos ht, if_pos hin]⟩
  · have := store_other s (i : Int) y b 1 (by omega)
    rw [at_one, at_one] at this
    rw [this]; exact h.v1
  · rw [e, getD_set_true _ _ _ (by omega)] at hj
    split at hj
    · omega
    · exact h.low j hj
theorem ClsA.begun {c : Ck} {s : St} (h : ClsA c s) : Cls c.noted c.begin_ s := by
  have e : c.begin_ = c.begun := by unfold Ck.begin_; rw [if_pos h.ph]
  rw [e]
  have hn := nx_le (lin 0 c.noted)
  have hm : ∀ i : Nat, c.noted.getD i false = true → (i : Int) ∈ lin 0 c.noted := fun i hi => (lin_mem0 _ _).2 ⟨i, rfl, hi⟩
  refine ⟨h.len, h.low, fun _ i hi => .inl (hm i hi), fun h1 i hi => ?_, fun h1 => by simp only [Ck.begun] at h1; omega, h.v1, fun h1 => by simp only [Ck.begun] at h1; omega, fun h1 => by simp only [Ck.begun] at h1; omega, fun h1 => by simp only [Ck.begun] at h1; omega, fun _ => h.dur, fun x hx => ?_⟩
  · have := hm i hi
    rw [nx_two h1] at this; cases this
  · obtain ⟨i, rfl, hi⟩ := (lin_mem0 _ _).1 hx
    have := h.low i hi
    omega
theorem ClsA.first : ClsA (ck0 4 7) (fresh 40, five0) := by
  refine ⟨by simp [fresh], rfl, rfl, ?_, fun i hi => ?_⟩
  · have : clAt (fresh 40) ((1 : Nat) : Int) = Cl.zero := by
      unfold clAt fresh
      rw [Int.toNat_natCast, List.getD, List.getElem?_replicate, if_pos (by omega)]
      rfl
    rw [show (1 : Int) = ((1 : Nat) : Int) from rfl, this]
    exact zeros64_len
  · rw [show (ck0 4 7).noted = noLines from rfl, noLines_at] at hi
    cases hi
/-- A set without lines from n on has at most n. -/
theorem lin_few (l : List Bool) (n : Nat) (h : ∀ i : Nat, l.getD i false = true → i < n) : (lin 0 l).length ≤ n := by
  have h1 := lin_app (l.take n) (l.drop n) 0
  rw [List.take_append_drop] at h1
  have h2 : lin (0 + (l.take n).length) (l.drop n) = [] := by
    refine List.eq_nil_iff_forall_not_mem.2 fun x hx => ?_
    obtain ⟨i, _, hi⟩ := (lin_mem _ _ _).1 hx
    rw [List.getElem?_drop] at hi
    have := h (n + i) (by simp [List.getD, hi])
    omega
  rw [h1, h2, List.append_nil]
  have := lin_len (l.take n) 0
  simp only [List.length_take] at this
  omega
theorem rem_begun {c : Ck} (h0 : c.ph = 0) (n : Nat) (h : ∀ i : Nat, c.noted.getD i false = true → i < n) : c.begin_.rem ≤ n + 4 := by
  have e : c.begin_ = c.begun := by unfold Ck.begin_; rw [if_pos h0]
  have := lin_few _ n h
  have hn := nx_le (lin 0 c.noted)
  rw [e]
  unfold Ck.rem
  simp only [Ck.begun]
  rcases hn with e | e
  · simp only [e]; simp <;> omega
  · simp only [e]; simp <;> omega

end Go.Proofs.Ytkcjamjjaallhaa
