/-
  Proved here: the program's lines and the chapter's own stay alike, whatever is done to both; what the chapter's calls leave, of any arguments.
  Conditions: none.
-/
import Derived.Test.YtkcjamjjaallhaaRef3D
namespace Go.Proofs.Ytkcjamjjaallhaa
open Go Go.RowKit

abbrev DvT (w : World) (p q : Nat) (s : St) : Prop := DvR w p q s.1 s.2
/-- A line of the program's and one of the chapter's: the same is seen, lasts, and is on its way. -/
def simC (c d : Cl) : Prop := c.v = d.v ∧ c.p = d.p ∧ c.on = d.on ∧ (c.on = true → c.f = d.f)
structure Sim (s r : St) : Prop where
  len : s.1.length = r.1.length
  cs : s.2 = r.2
  at_ : ∀ i : Nat, i < s.1.length → simC (clAt s.1 (i : Int)) (clAt r.1 (i : Int))
def St.rback (s : St) (x : Int) : St := if has s.1 x then (s.1.set x.toNat (clAt s.1 x).rback, bump s.2 3) else s
def St.rfence (s : St) : St := (s.1.map Cl.rfence, bump s.2 2)
def St.rcut (s : St) (keep : List Int) : St := (s.1.mapIdx fun i c => c.rcut (keep.any (· == (i : Int))), bump s.2 4)
theorem Sim.has {s r : St} (h : Sim s r) (x : Int) : has s.1 x = has r.1 x := by simp only [Go.Proofs.Ytkcjamjjaallhaa.has, h.len]
theorem sim_set {s r : St} (h : Sim s r) {x : Int} (hx : has s.1 x = true) (c d : Cl) (hcd : simC c d) (k : Nat) : Sim (s.1.set x.toNat c, bump s.2 k) (r.1.set x.toNat d, bump r.2 k) := by
  obtain ⟨i, rfl, hi⟩ := has_true hx
  refine ⟨by simpa using h.len, by show bump _ _ = bump _ _; rw [h.cs], fun j hj => ?_⟩
  simp only [List.length_set] at hj
  rw [Int.toNat_natCast, clAt_set _ _ _ _ hi, clAt_set _ _ _ _ (by rw [← h.len]; exact hi)]
  split
  · exact hcd
  · exact h.at_ j hj
theorem sim_line {s r : St} (h : Sim s r) {x : Int} (hx : has s.1 x = true) : simC (clAt s.1 x) (clAt r.1 x) := by
  obtain ⟨i, rfl, hi⟩ := has_true hx
  exact h.at_ i hi
theorem Sim.store {s r : St} (h : Sim s r) (x y : Int) (b : List UInt8) : Sim (s.store x y b) (r.store x y b) := by
  unfold St.store
  rw [← h.has x]
  split
  · rename_i hh
    rw [Bool.and_eq_true] at hh
    obtain ⟨h1, h2, h3, h4⟩ := sim_line h hh.1
    exact sim_set h hh.1 ((clAt s.1 x).store y.toNat b) ((clAt r.1 x).store y.toNat b) ⟨by simp only [Cl.store, h1], h2, h3, h4⟩ 0
  · exact h
theorem Sim.flush {s r : St} (h : Sim s r) (x : Int) : Sim (s.flush x) (r.flush x) := by
  unfold St.flush
  rw [← h.has x]
  split
  · rename_i hh
    obtain ⟨h1, h2, h3, h4⟩ := sim_line h hh
    exact sim_set h hh (clAt s.1 x).flush (clAt r.1 x).flush ⟨h1, h2, rfl, fun _ => h1⟩ 1
  · exact h
theorem Sim.back {s r : St} (h : Sim s r) (x : Int) : Sim (s.back x) (r.rback x) := by
  unfold St.back St.rback
  rw [← h.has x]
  split
  · rename_i hh
    obtain ⟨h1, h2, h3, h4⟩ := sim_line h hh
    exact sim_set h hh (clAt s.1 x).back (clAt r.1 x).rback ⟨h1, h1, rfl, fun h => by cases h⟩ 3
  · exact h
theorem Sim.fence {s r : St} (h : Sim s r) : Sim s.fence r.rfence := by
  refine ⟨by simpa [St.fence, St.rfence] using h.len, by show bump _ _ = bump _ _; rw [h.cs], fun i hi => ?_⟩
  rw [St.fence_len] at hi
  rw [St.fence_at _ _ hi, St.rfence, clAt_map _ _ _ (by rw [← h.len]; exact hi)]
  obtain ⟨h1, h2, h3, h4⟩ := h.at_ i hi
  unfold Cl.fence Cl.rfence
  rw [← h3]
  split
  · rename_i ho
    exact ⟨h1, h4 ho, rfl, fun h => by cases h⟩
  · exact ⟨h1, h2, h3, h4⟩
theorem clAt_mapIdx (st : List Cl) (f : Nat → Cl → Cl) (j : Nat) (hj : j < st.length) : clAt (st.mapIdx f) (j : Int) = f j (clAt st (j : Int)) := by
  simp [clAt, List.getD, List.getElem?_eq_getElem hj]
theorem Sim.cut {s r : St} (h : Sim s r) (keep : List Int) : Sim (s.cut keep) (r.rcut keep) := by
  refine ⟨by rw [St.cut_len]; simpa [St.rcut] using h.len, by show bump _ _ = bump _ _; rw [h.cs], fun i hi => ?_⟩
  rw [St.cut_len] at hi
  rw [St.cut, clAt_map _ _ _ (by rw [keepAll_len]; exact hi), keepAll_at _ _ _ hi, St.rcut, clAt_mapIdx _ _ _ (by rw [← h.len]; exact hi)]
  obtain ⟨h1, h2, h3, h4⟩ := h.at_ i hi
  generalize keep.any (· == (i : Int)) = kb
  unfold Cl.rcut
  rw [← h1, ← h2]
  cases kb with
  | false => simp only [Bool.and_false, Bool.false_eq_true, if_false]; first | exact ⟨rfl, rfl, rfl, fun h => by cases h⟩ | exact ⟨h2, h2, rfl, fun h => by cases h⟩
  | true =>
    cases hv : ((clAt s.1 (i : Int)).v == (clAt s.1 (i : Int)).p) with
    | true =>
      have e : (clAt s.1 (i : Int)).v = (clAt s.1 (i : Int)).p := by simpa using hv
      simp only [bne, hv, Bool.not_true, Bool.false_and, Bool.false_eq_true, if_false, if_true]
      first | exact ⟨e, e, rfl, fun h => by cases h⟩ | exact ⟨e.trans h2, e.trans h2, rfl, fun h => by cases h⟩
    | false =>
      simp only [bne, hv, Bool.not_false, Bool.true_and, if_true]
      first | exact ⟨rfl, rfl, rfl, fun h => by cases h⟩ | exact ⟨h1, rfl, rfl, fun h => by cases h⟩
theorem idx_rl (f : Cl → Bool) (st : List Cl) (n : Nat) (hn : n ≤ st.length) : idx f 0 (st.take n) = rl (fun i => f (clAt st (i : Int))) n := by
  induction n with
  | zero => simp [idx, rl]
  | succ n ih =>
    have h1 := clAt_some (show n < st.length by omega)
    rw [idx_take f st n _ h1, ih (by omega), rl]
theorem rl_congr (f g : Nat → Bool) (n : Nat) (h : ∀ i, i < n → f i = g i) : rl f n = rl g n := by
  induction n with
  | zero => rfl
  | succ n ih => rw [rl, rl, ih (fun i hi => h i (by omega)), h n (by omega)]
theorem idx_all (f : Cl → Bool) (st : List Cl) : idx f 0 st = rl (fun i => f (clAt st (i : Int))) st.length := by
  have := idx_rl f st st.length (Nat.le_refl _)
  rwa [List.take_of_length_le (Nat.le_refl _)] at this
theorem Sim.loose {s r : St} (h : Sim s r) : looseL s.1 = looseL r.1 := by
  rw [looseL, looseL, idx_all, idx_all, ← h.len]
  exact rl_congr _ _ _ (fun i hi => by obtain ⟨h1, h2, _⟩ := h.at_ i hi; rw [h1, h2])
theorem Sim.way {s r : St} (h : Sim s r) : wayL s.1 = wayL r.1 := by
  rw [wayL, wayL, idx_all, idx_all, ← h.len]
  exact rl_congr _ _ _ (fun i hi => (h.at_ i hi).2.2.1)
theorem Sim.lost {s r : St} (h : Sim s r) (keep : List Int) : looseL (keepAll s.1 keep) = rl (lostB r.1 keep) r.1.length := by
  rw [looseL, idx_all, keepAll_len, ← h.len]
  refine rl_congr _ _ _ (fun i hi => ?_)
  obtain ⟨h1, h2, _⟩ := h.at_ i hi
  rw [keepAll_at _ _ _ hi, lostB, ← h1, ← h2]
  cases keep.any (· == (i : Int))
  · simp
  · simp
theorem sim_fresh (n : Nat) : Sim (fresh n, five0) (fresh n, five0) := ⟨rfl, rfl, fun _ _ => ⟨rfl, rfl, rfl, fun _ => rfl⟩⟩

theorem rstore_any {w : World} {p q : Nat} {s : St} (h : DvT w p q s) (x y : Int) (B : Option Addr) (m k : Nat) (l : List UInt8) (hl : l.length = m) (hB : Row w B l) (hne : 0 < l.length → ∀ x, B = some x → x.block ≠ p ∧ x.block ≠ q) :
    Calls Try.prog 22 #[.pointer (some ⟨p, 0, none⟩), .int .i64 x, .int .i64 y, .slice B m k] w fun e w' => e = .returned (.int .i64 (err (has s.1 x && fitsAt y m))) ∧ DvT w' p q (s.store x y l) ∧ Turns p q w w' := by
  subst hl
  unfold St.store
  cases h1 : has s.1 x with
  | false =>
    refine (rstore_bad h x y _ h1).mono ?_
    rintro e w' ⟨rfl, rfl⟩
    exact ⟨rfl, h, Turns.refl _ _ _⟩
  | true =>
    cases h2 : fitsAt y l.length with
    | false =>
      refine (rstore_off h x y B _ k (by have := hB.1; omega) h1 (fits_false h2)).mono ?_
      rintro e w' ⟨rfl, rfl⟩
      exact ⟨rfl, h, Turns.refl _ _ _⟩
    | true =>
      obtain ⟨i, rfl, hi⟩ := has_true h1
      obtain ⟨a, rfl, ha⟩ := fits_true h2
      exact rstore_ok h (clAt_some hi) a B _ k l rfl ha hB hne
theorem rflush_any {w : World} {p q : Nat} {s : St} (h : DvT w p q s) (x : Int) :
    Calls Try.prog 43 #[.pointer (some ⟨p, 0, none⟩), .int .i64 x] w fun e w' => e = .returned (.int .i64 (err (has s.1 x))) ∧ DvT w' p q (s.flush x) ∧ Turns p q w w' := by
  unfold St.flush
  cases h1 : has s.1 x with
  | false =>
    refine (rflush_bad h x h1).mono ?_
    rintro e w' ⟨rfl, rfl⟩
    exact ⟨rfl, h, Turns.refl _ _ _⟩
  | true =>
    obtain ⟨i, rfl, hi⟩ := has_true h1
    exact rflush_ok h (clAt_some hi)
theorem rback_any {w : World} {p q : Nat} {s : St} (h : DvT w p q s) (x : Int) :
    Calls Try.prog 24 #[.pointer (some ⟨p, 0, none⟩), .int .i64 x] w fun e w' => e = .returned (.int .i64 (err (has s.1 x))) ∧ DvT w' p q (s.rback x) ∧ Turns p q w w' := by
  unfold St.rback
  cases h1 : has s.1 x with
  | false =>
    refine (rback_bad h x h1).mono ?_
    rintro e w' ⟨rfl, rfl⟩
    exact ⟨rfl, h, Turns.refl _ _ _⟩
  | true =>
    obtain ⟨i, rfl, hi⟩ := has_true h1
    exact rback_ok h (clAt_some hi)
end Go.Proofs.Ytkcjamjjaallhaa
