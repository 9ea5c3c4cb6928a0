/-
  Proved here: what a durability clock is, as numbers; what a note, the beginning and each step of the closing leave of it and of a device's lines.
  Conditions: none.
-/
import Derived.Test.YtkcjamjjaallhaaNvmK
import Derived.Test.YtkcjamjjaallhaaInts
import Derived.Test.YtkcjamjjaallhaaGeomMath
namespace Go.Proofs.Ytkcjamjjaallhaa
open Go Go.RowKit

/-! ### Lines of a set -/
def lin : Nat → List Bool → List Int
  | _, [] => []
  | k, b :: l => if b then (k : Int) :: lin (k + 1) l else lin (k + 1) l
theorem lin_app (a b : List Bool) (k : Nat) : lin k (a ++ b) = lin k a ++ lin (k + a.length) b := by
  induction a generalizing k with
  | nil => simp [lin]
  | cons d a ih =>
    simp only [List.cons_append, lin, ih, List.length_cons, show k + 1 + a.length = k + (a.length + 1) by omega]
    split <;> simp
theorem lin_take (l : List Bool) (i : Nat) (h : i < l.length) : lin 0 (l.take (i + 1)) = lin 0 (l.take i) ++ (if l.getD i false then [(i : Int)] else []) := by
  rw [List.take_succ_eq_append_getElem h, lin_app]
  simp only [lin, Nat.zero_add, List.length_take, Nat.min_eq_left (Nat.le_of_lt h), List.getD, List.getElem?_eq_getElem h, Option.getD_some]
theorem lin_take_yes (l : List Bool) (i : Nat) (h : i < l.length) (hb : l.getD i false = true) : lin 0 (l.take (i + 1)) = lin 0 (l.take i) ++ [(i : Int)] := by rw [lin_take l i h, hb]; rfl
theorem lin_take_no (l : List Bool) (i : Nat) (h : i < l.length) (hb : l.getD i false = false) : lin 0 (l.take (i + 1)) = lin 0 (l.take i) := by rw [lin_take l i h, hb]; simp
theorem lin_len (l : List Bool) (k : Nat) : (lin k l).length ≤ l.length := by
  induction l generalizing k with
  | nil => simp [lin]
  | cons b l ih =>
    simp only [lin, List.length_cons]
    have := ih (k + 1)
    split
    · simp only [List.length_cons]; omega
    · omega
theorem lin_mem (l : List Bool) (k : Nat) (x : Int) : x ∈ lin k l ↔ ∃ i : Nat, x = ((k + i : Nat) : Int) ∧ l[i]? = some true := by
  induction l generalizing k with
  | nil => simp [lin]
  | cons b l ih =>
    have hr : x ∈ lin (k + 1) l ↔ ∃ i : Nat, x = ((k + (i + 1) : Nat) : Int) ∧ (b :: l)[i + 1]? = some true := by
      rw [ih (k + 1)]
      simp only [List.getElem?_cons_succ, show ∀ i, k + 1 + i = k + (i + 1) from fun i => by omega]
    constructor
    · intro h
      simp only [lin] at h
      split at h
      · rename_i hb
        rcases List.mem_cons.1 h with rfl | h
        · exact ⟨0, rfl, by simp [hb]⟩
        · obtain ⟨i, h1, h2⟩ := hr.1 h
          exact ⟨i + 1, h1, h2⟩
      · obtain ⟨i, h1, h2⟩ := hr.1 h
        exact ⟨i + 1, h1, h2⟩
    · rintro ⟨i, h1, h2⟩
      simp only [lin]
      cases i with
      | zero =>
        have hb : b = true := by simpa using h2
        subst hb
        simp [h1]
      | succ i =>
        have := hr.2 ⟨i, h1, h2⟩
        split
        · exact List.mem_cons_of_mem _ this
        · exact this
theorem lin_mem0 (l : List Bool) (x : Int) : x ∈ lin 0 l ↔ ∃ i : Nat, x = (i : Int) ∧ l.getD i false = true := by
  rw [lin_mem]
  constructor
  · rintro ⟨i, h1, h2⟩
    exact ⟨i, by rw [h1, Nat.zero_add], by simp [List.getD, h2]⟩
  · rintro ⟨i, h1, h2⟩
    refine ⟨i, by rw [h1, Nat.zero_add], ?_⟩
    simp only [List.getD] at h2
    cases h : l[i]? with
    | none => rw [h] at h2; cases h2
    | some b => rw [h] at h2; rw [show b = true from h2]
theorem lin_none (k n : Nat) : lin k (List.replicate n false) = [] := by
  induction n generalizing k with
  | zero => rfl
  | succ n ih => rw [List.replicate_succ]; simp only [lin, Bool.false_eq_true, if_false]; exact ih (k + 1)

/-! ### A clock -/
def noLines : List Bool := List.replicate 258 false
theorem noLines_len : noLines.length = 258 := List.length_replicate ..
theorem noLines_at (i : Nat) : noLines.getD i false = false := by
  unfold noLines
  rw [List.getD, List.getElem?_replicate]
  split <;> rfl
/-- ph: 0 nothing is being closed; what the next step does: 1 flushes a line, 2 fences, 3 stores the clock's line, 4 flushes it, 5 fences. -/
structure Ck where
  dur : Nat
  owed : List Int
  noted : List Bool
  left : List Int
  ph : Nat
def Ck.now (c : Ck) : Nat := if c.ph = 0 then c.dur + 1 else c.dur + 2
def inT (L : List Int) (t : Int) : Prop := 0 ≤ t ∧ t < L.length
instance (L : List Int) (t : Int) : Decidable (inT L t) := inferInstanceAs (Decidable (_ ∧ _))
def inLine (x : Int) : Prop := 0 ≤ x ∧ x < 258
instance (x : Int) : Decidable (inLine x) := inferInstanceAs (Decidable (_ ∧ _))
def Ck.noteE (c : Ck) (t x : Int) : Int := if inT c.owed t then (if inLine x then 0 else 2) else 1
def Ck.note (c : Ck) (t x : Int) : Ck := if inT c.owed t ∧ inLine x then { c with noted := c.noted.set x.toNat true, owed := c.owed.set t.toNat (up (c.owed.getD t.toNat 0)) } else c
def nx (l : List Int) : Nat := if l.length = 0 then 2 else 1
def Ck.beginE (c : Ck) : Int := if c.ph = 0 then 0 else 7
def Ck.begun (c : Ck) : Ck := { c with noted := noLines, owed := List.replicate c.owed.length 0, left := lin 0 c.noted, ph := nx (lin 0 c.noted) }
def Ck.begin_ (c : Ck) : Ck := if c.ph = 0 then c.begun else c
def Ck.stepE (c : Ck) : Int := if c.ph = 0 then 12 else 0
def Ck.act (c : Ck) : Int := if c.ph = 0 then 0 else if c.ph = 1 then 1 else if c.ph = 2 then 2 else if c.ph = 3 then 3 else if c.ph = 4 then 1 else 2
def Ck.step (c : Ck) : Ck :=
  if c.ph = 0 then c else if c.ph = 1 then { c with left := c.left.tail, ph := nx c.left.tail } else if c.ph = 2 then { c with ph := 3 } else if c.ph = 3 then { c with ph := 4 } else if c.ph = 4 then { c with ph := 5 } else { c with ph := 0, dur := c.dur + 1 }
def Ck.dev (c : Ck) (s : St) : St :=
  if c.ph = 0 then s else if c.ph = 1 then s.flush (c.left.getD 0 0) else if c.ph = 2 then s.fence else if c.ph = 3 then s.store 1 0 (clockL (c.dur + 1)) else if c.ph = 4 then s.flush 1 else s.fence
structure Ck.ok (c : Ck) : Prop where
  lt : c.dur + 2 < 18446744073709551616
  noted : c.noted.length = 258
  one : 1 ≤ c.owed.length
  four : c.owed.length ≤ 4
  left : c.left.length ≤ 258
  lines : ∀ x ∈ c.left, inLine x
  ph : c.ph ≤ 5
  some_ : c.ph = 1 ↔ c.left ≠ []
def ck0 (n d : Nat) : Ck := ⟨d, List.replicate n 0, noLines, [], 0⟩
theorem ck0_ok {n d : Nat} (h1 : 1 ≤ n) (h4 : n ≤ 4) (hd : d + 2 < 18446744073709551616) : (ck0 n d).ok := ⟨hd, noLines_len, by simpa [ck0] using h1, by simpa [ck0] using h4, by simp [ck0], fun x hx => by simp [ck0] at hx, by simp [ck0], by simp [ck0]⟩
theorem Ck.note_ph (c : Ck) (t x : Int) : (c.note t x).ph = c.ph := by unfold Ck.note; split <;> rfl
theorem Ck.note_dur (c : Ck) (t x : Int) : (c.note t x).dur = c.dur := by unfold Ck.note; split <;> rfl
theorem Ck.note_left (c : Ck) (t x : Int) : (c.note t x).left = c.left := by unfold Ck.note; split <;> rfl
theorem Ck.note_owed (c : Ck) (t x : Int) : (c.note t x).owed.length = c.owed.length := by unfold Ck.note; split <;> simp
theorem Ck.note_noted (c : Ck) (t x : Int) : (c.note t x).noted.length = c.noted.length := by unfold Ck.note; split <;> simp
theorem Ck.ok.note {c : Ck} (h : c.ok) (t x : Int) : (c.note t x).ok :=
  ⟨by rw [Ck.note_dur]; exact h.lt, by rw [Ck.note_noted]; exact h.noted, by rw [Ck.note_owed]; exact h.one, by rw [Ck.note_owed]; exact h.four, by rw [Ck.note_left]; exact h.left, by rw [Ck.note_left]; exact h.lines, by rw [Ck.note_ph]; exact h.ph, by rw [Ck.note_ph, Ck.note_left]; exact h.some_⟩
theorem lin_line (l : List Bool) (hl : l.length = 258) : ∀ x ∈ lin 0 l, inLine x := by
  intro x hx
  obtain ⟨i, rfl, hi⟩ := (lin_mem0 l x).1 hx
  have : i < l.length := by
    rcases Nat.lt_or_ge i l.length with h | h
    · exact h
    · simp [List.getD, List.getElem?_eq_none h] at hi
  exact ⟨by omega, by omega⟩
theorem nx_some (l : List Int) : nx l = 1 ↔ l ≠ [] := by
  unfold nx
  cases l <;> simp
theorem nx_le (l : List Int) : nx l = 1 ∨ nx l = 2 := by unfold nx; split <;> simp
theorem Ck.ok.begun {c : Ck} (h : c.ok) : c.begun.ok :=
  ⟨h.lt, noLines_len, by simpa [Ck.begun] using h.one, by simpa [Ck.begun] using h.four, by have := lin_len c.noted 0; have := h.noted; show (lin 0 c.noted).length ≤ 258; omega, lin_line _ h.noted, by have := nx_le (lin 0 c.noted); show nx _ ≤ 5; omega, nx_some _⟩
theorem Ck.ok.begin_ {c : Ck} (h : c.ok) : c.begin_.ok := by
  unfold Ck.begin_
  split
  · exact h.begun
  · exact h
theorem Ck.ok.step {c : Ck} (h : c.ok) (hd : c.dur + 3 < 18446744073709551616) : c.step.ok := by
  have hs := h.some_
  unfold Ck.step
  split
  · exact h
  split
  · exact ⟨h.lt, h.noted, h.one, h.four, by have := h.left; simp only [List.length_tail]; omega, fun x hx => h.lines x (List.mem_of_mem_tail hx), by have := nx_le c.left.tail; show nx _ ≤ 5; omega, nx_some _⟩
  split
  · exact ⟨h.lt, h.noted, h.one, h.four, h.left, h.lines, by simp only; omega, by simp only; rw [← hs]; omega⟩
  split
  · exact ⟨h.lt, h.noted, h.one, h.four, h.left, h.lines, by simp only; omega, by simp only; rw [← hs]; omega⟩
  split
  · exact ⟨h.lt, h.noted, h.one, h.four, h.left, h.lines, by simp only; omega, by simp only; rw [← hs]; omega⟩
  · exact ⟨by show c.dur + 1 + 2 < _; omega, h.noted, h.one, h.four, h.left, h.lines, by simp only; omega, by simp only; rw [← hs]; omega⟩
/-- How many steps are ahead. -/
def Ck.rem (c : Ck) : Nat := if c.ph = 0 then 0 else if c.ph = 1 then c.left.length + 4 else 6 - c.ph
theorem Ck.ok.rem {c : Ck} (h : c.ok) (hp : c.ph ≠ 0) : c.step.rem + 1 = c.rem := by
  have hs := h.some_
  have h5 := h.ph
  unfold Ck.step
  rw [if_neg hp]
  split
  · rename_i h1
    have hne := hs.1 h1
    have : c.left.length ≠ 0 := fun e => hne (List.eq_nil_of_length_eq_zero e)
    have hl : c.left.tail.length + 1 = c.left.length := by rw [List.length_tail]; omega
    unfold Ck.rem nx
    simp only [h1]
    split <;> simp <;> omega
  split
  · unfold Ck.rem; simp [*]
  split
  · unfold Ck.rem; simp [*]
  split
  · unfold Ck.rem; simp [*]
  · have : c.ph = 5 := by omega
    unfold Ck.rem; simp [this]
theorem Ck.rem_zero {c : Ck} (h : c.ok) : c.rem = 0 ↔ c.ph = 0 := by
  have := h.ph
  unfold Ck.rem
  split
  · simp [*]
  split
  · simp [*]
  · constructor <;> omega

end Go.Proofs.Ytkcjamjjaallhaa
