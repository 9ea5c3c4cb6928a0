/-
  Proved here: what a device's calls leave, of any arguments, as a function of its lines and counts; and that the chapter's example, as the statements of chapter 3 ask it, is answered so.
  Conditions: a device of at most 258 lines.
-/
import Derived.Test.YtkcjamjjaallhaaNvmH
namespace Go.Proofs.Ytkcjamjjaallhaa
open Go Go.RowKit

/-! ### What calls make of a device's lines and counts -/
def has (st : List Cl) (x : Int) : Bool := decide (0 ≤ x) && decide (x < (st.length : Int))
theorem has_true {st : List Cl} {x : Int} (h : has st x = true) : ∃ i : Nat, x = (i : Int) ∧ i < st.length := by
  simp only [has, Bool.and_eq_true, decide_eq_true_eq] at h
  exact ⟨x.toNat, by omega, by omega⟩
theorem has_false {st : List Cl} {x : Int} (h : has st x = false) : x < 0 ∨ (st.length : Int) ≤ x := by
  simp only [has, Bool.and_eq_false_iff, decide_eq_false_iff_not] at h
  omega
def clAt (st : List Cl) (x : Int) : Cl := st.getD x.toNat Cl.zero
theorem clAt_some {st : List Cl} {i : Nat} (h : i < st.length) : st[i]? = some (clAt st (i : Int)) := by
  simp [clAt, List.getD, List.getElem?_eq_getElem h]
def fitsAt (y : Int) (n : Nat) : Bool := decide (0 ≤ y) && decide (y + (n : Int) ≤ 64)
theorem fits_true {y : Int} {n : Nat} (h : fitsAt y n = true) : ∃ a : Nat, y = (a : Int) ∧ a + n ≤ 64 := by
  simp only [fitsAt, Bool.and_eq_true, decide_eq_true_eq] at h
  exact ⟨y.toNat, by omega, by omega⟩
theorem fits_false {y : Int} {n : Nat} (h : fitsAt y n = false) : y < 0 ∨ 64 - (n : Int) < y := by
  simp only [fitsAt, Bool.and_eq_false_iff, decide_eq_false_iff_not] at h
  omega
abbrev St := List Cl × List Int
def St.store (s : St) (x y : Int) (b : List UInt8) : St := if has s.1 x && fitsAt y b.length then (s.1.set x.toNat ((clAt s.1 x).store y.toNat b), bump s.2 0) else s
def St.flush (s : St) (x : Int) : St := if has s.1 x then (s.1.set x.toNat (clAt s.1 x).flush, bump s.2 1) else s
def St.fence (s : St) : St := (s.1.map Cl.fence, bump s.2 2)
def St.back (s : St) (x : Int) : St := if has s.1 x then (s.1.set x.toNat (clAt s.1 x).back, bump s.2 3) else s
def St.cut (s : St) (keep : List Int) : St := ((keepAll s.1 keep).map Cl.cut, bump s.2 4)
def err (b : Bool) : Int := if b then 0 else 2
abbrev DvS (w : World) (p q : Nat) (s : St) : Prop := DvP w p q s.1 s.2

theorem store_any {w : World} {p q : Nat} {s : St} (h : DvS w p q s) (x y : Int) (B : Option Addr) (m k : Nat) (l : List UInt8) (hl : l.length = m) (hB : Row w B l) (hB0 : B = none → k = 0) :
    Calls Try.prog 21 #[.pointer (some ⟨p, 0, none⟩), .int .i64 x, .int .i64 y, .slice B m k] w fun e w' => e = .returned (.int .i64 (err (has s.1 x && fitsAt y m))) ∧ DvS w' p q (s.store x y l) ∧ Turns p q w w' := by
  subst hl
  unfold St.store
  cases h1 : has s.1 x with
  | false =>
    refine (store_bad h x y _ (has_false h1)).mono ?_
    rintro e w' ⟨rfl, rfl⟩
    exact ⟨rfl, h, Turns.refl _ _ _⟩
  | true =>
    obtain ⟨i, rfl, hi⟩ := has_true h1
    cases h2 : fitsAt y l.length with
    | false =>
      refine (store_off h i hi y B _ k (by have := hB.1; omega) (fits_false h2)).mono ?_
      rintro e w' ⟨rfl, rfl⟩
      exact ⟨rfl, h, Turns.refl _ _ _⟩
    | true =>
      obtain ⟨a, rfl, ha⟩ := fits_true h2
      exact store_ok h (clAt_some hi) a B _ k l rfl ha hB hB0
theorem flush_any {w : World} {p q : Nat} {s : St} (h : DvS w p q s) (x : Int) :
    Calls Try.prog 76 #[.pointer (some ⟨p, 0, none⟩), .int .i64 x] w fun e w' => e = .returned (.int .i64 (err (has s.1 x))) ∧ DvS w' p q (s.flush x) ∧ Turns p q w w' := by
  unfold St.flush
  cases h1 : has s.1 x with
  | false =>
    refine (flush_bad h x (has_false h1)).mono ?_
    rintro e w' ⟨rfl, rfl⟩
    exact ⟨rfl, h, Turns.refl _ _ _⟩
  | true =>
    obtain ⟨i, rfl, hi⟩ := has_true h1
    exact flush_ok h (clAt_some hi)
theorem back_any {w : World} {p q : Nat} {s : St} (h : DvS w p q s) (x : Int) :
    Calls Try.prog 23 #[.pointer (some ⟨p, 0, none⟩), .int .i64 x] w fun e w' => e = .returned (.int .i64 (err (has s.1 x))) ∧ DvS w' p q (s.back x) ∧ Turns p q w w' := by
  unfold St.back
  cases h1 : has s.1 x with
  | false =>
    refine (back_bad h x (has_false h1)).mono ?_
    rintro e w' ⟨rfl, rfl⟩
    exact ⟨rfl, h, Turns.refl _ _ _⟩
  | true =>
    obtain ⟨i, rfl, hi⟩ := has_true h1
    exact back_ok h (clAt_some hi)
theorem fence_any {w : World} {p q : Nat} {s : St} (h : DvS w p q s) :
    Calls Try.prog 77 #[.pointer (some ⟨p, 0, none⟩)] w fun e w' => e = .returned (.int .i64 0) ∧ DvS w' p q s.fence ∧ Turns p q w w' := fence_ok h

theorem St.store_len (s : St) (x y : Int) (b : List UInt8) : (s.store x y b).1.length = s.1.length := by unfold St.store; split <;> simp
theorem St.flush_len (s : St) (x : Int) : (s.flush x).1.length = s.1.length := by unfold St.flush; split <;> simp
theorem St.back_len (s : St) (x : Int) : (s.back x).1.length = s.1.length := by unfold St.back; split <;> simp
theorem St.fence_len (s : St) : s.fence.1.length = s.1.length := by simp [St.fence]
theorem St.cut_len (s : St) (keep : List Int) : (s.cut keep).1.length = s.1.length := by simp [St.cut, keepAll_len]

theorem arr_cell {T : TypeId} {w : World} {g : Nat} {x : List UInt8} (h : Arr T w g x) (j : Nat) (hj : j < x.length) : w.cell? ⟨g, j, none⟩ = some (.int .u8 ((x.getD j 0).toNat : Nat)) := by
  unfold Arr at h
  simp [World.cell?, h, enc_at x j hj]
def one7 : Cl := Cl.zero.store 1 [7]
def st7 : List Cl := (fresh 2).set 0 one7
theorem one7_v : one7.v.length = 64 ∧ one7.v.getD 1 0 = 7 := by decide
theorem one7_p : one7.p.length = 64 ∧ one7.p.getD 1 0 = 0 := by decide
theorem st7_loose : looseL st7 = [0] := by decide
theorem st7_at : st7[0]? = some one7 := by rfl
end Go.Proofs.Ytkcjamjjaallhaa
