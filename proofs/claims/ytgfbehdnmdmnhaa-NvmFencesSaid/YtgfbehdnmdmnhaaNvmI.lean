/-
  Proved here: what a device's calls leave, of any arguments, as a function of its lines and counts; and that the chapter's example, as the statements of chapter 3 ask it, is answered so.
  Conditions: a device of at most 258 lines.
-/
import Derived.Test.YtgfbehdnmdmnhaaNvmH
namespace Go.Proofs.Ytgfbehdnmdmnhaa
open Go Go.RowKit

/-! ### What calls make of a device's lines and counts -/
def has (st : List Cl) (x : Int) : Bool := decide (0 ≤ x) && decide (x < (st.length : Int))
theorem has_true {st : List Cl} {x : Int} (h : has st x = true) : ∃ i : Nat, x = (i : Int) ∧ i < st.length := by
  simp only [has, Bool.and_eq_true, decide_eq_true_eq] at h
  exact ⟨x.toNat, by omega, by omega⟩
theorem has_false {st : List Cl} {x : Int} (h : has st x = false) : x < 0 ∨ (st.length : Int) ≤ x := by
  simp only [has, Bool.and_eq_false_iff, decide_eq_false_iff_not] at h
  omega
def clAt (st : List Cl) (x : Int) : Cl := st.getD x.toNat Cl.zero
theorem clAt_some {st : List Cl} {i : Nat} (h : i < st.length) : st[i]? = some (clAt st (i : Int)) := by
  simp [clAt, List.getD, List.getElem?_eq_getElem h]
def fitsAt (y : Int) (n : Nat) : Bool := decide (0 ≤ y) && decide (y + (n : Int) ≤ 64)
theorem fits_true {y : Int} {n : Nat} (h : fitsAt y n = true) : ∃ a : Nat, y = (a : Int) ∧ a + n ≤ 64 := by
  simp only [fitsAt, Bool.and_eq_true, decide_eq_true_eq] at h
  exact ⟨y.toNat, by omega, by omega⟩
theorem fits_false {y : Int} {n : Nat} (h : fitsAt y n = false) : y < 0 ∨ 64 - (n : Int) < y := by
  simp only [fitsAt, Bool.and_eq_false_iff, decide_eq_false_iff_not] at h
  omega
abbrev St := List Cl × List Int
def St.store (s : St) (x y : Int) (b : List UInt8) : St := if has s.1 x && fitsAt y b.length then (s.1.set x.toNat ((clAt s.1 x).store y.toNat b), bump s.2 0) else s
def St.flush (s : St) (x : Int) : St := if has s.1 x then (s.1.set x.toNat (clAt s.1 x).flush, bump s.2 1) else s
def St.fence (s : St) : St := (s.1.map Cl.fence, bump s.2 2)
def St.back (s : St) (x : Int) : St := if has s.1 x then (s.1.set x.toNat (clAt s.1 x).back, bump s.2 3) else s
def St.cut (s : St) (keep : List Int) : St := ((keepAll s.1 keep).map Cl.cut, bump s.2 4)
def err (b : Bool) : Int := if b then 0 else 2
abbrev DvS (w : World) (p q : Nat) (s : St) : Prop := DvP w p q s.1 s.2

theorem store_any {w : World} {p q : Nat} {s : St} (h : DvS w p q s) (x y : Int) (B : Option Addr) (m k : Nat) (l : List UInt8) (hl : l.length = m) (hB : Row w B l) (hB0 : B = none → k = 0) :
    Calls Try.prog 30 #[.pointer (some ⟨p, 0, none⟩), .int .i64 x, .int .i64 y, .slice B m k] w fun e w' => e = .returned (.int .i64 (err (has s.1 x && fitsAt y m))) ∧ DvS w' p q (s.store x y l) ∧ Turns p q w w' := by
  subst hl
  unfold St.store
  cases h1 : has s.1 x with
  | false =>
    refine (store_bad h x y _ (has_false h1)).mono ?_
    rintro e w' ⟨rfl, rfl⟩
    exact ⟨rfl, h, Turns.refl _ _ _⟩
  | true =>
    obtain ⟨i, rfl, hi⟩ := has_true h1
    cases h2 : fitsAt y l.length with
    | false =>
      refine (store_off h i hi y B _ k (by have := hB.1; omega) (fits_false h2)).mono ?_
      rintro e w' ⟨rfl, rfl⟩
      exact ⟨rfl, h, Turns.refl _ _ _⟩
    | true =>
      obtain ⟨a, rfl, ha⟩ := fits_true h2
      exact store_ok h (clAt_some hi) a B _ k l rfl ha hB hB0
theorem flush_any {w : World} {p q : Nat} {s : St} (h : DvS w p q s) (x : Int) :
    Calls Try.prog 20 #[.pointer (some ⟨p, 0, none⟩), .int .i64 x] w fun e w' => e = .returned (.int .i64 (err (has s.1 x))) ∧ DvS w' p q (s.flush x) ∧ Turns p q w w' := by
  unfold St.flush
  cases h1 : has s.1 x with
  | false =>
    refine (flush_bad h x (has_false h1)).mono ?_
    rintro e w' ⟨rfl, rfl⟩
    exact ⟨rfl, h, Turns.refl _ _ _⟩
  | true =>
    obtain ⟨i, rfl, hi⟩ := has_true h1
    exact flush_ok h (clAt_some hi)
theorem back_any {w : World} {p q : Nat} {s : St} (h : DvS w p q s) (x : Int) :
    Calls Try.prog 29 #[.pointer (some ⟨p, 0, none⟩), .int .i64 x] w fun e w' => e = .returned (.int .i64 (err (has s.1 x))) ∧ DvS w' p q (s.back x) ∧ Turns p q w w' := by
  unfold St.back
  cases h1 : has s.1 x with
  | false =>
    refine (back_bad h x (has_false h1)).mono ?_
    rintro e w' ⟨rfl, rfl⟩
    exact ⟨rfl, h, Turns.refl _ _ _⟩
  | true =>
    obtain ⟨i, rfl, hi⟩ := has_true h1
    exact back_ok h (clAt_some hi)
theorem fence_any {w : World} {p q : Nat} {s : St} (h : DvS w p q s) :
    Calls Try.prog 22 #[.pointer (some ⟨p, 0, none⟩)] w fun e w' => e = .returned (.int .i64 0) ∧ DvS w' p q s.fence ∧ Turns p q w w' := fence_ok h

theorem St.store_len (s : St) (x y : Int) (b : List UInt8) : (s.store x y b).1.length = s.1.length := by unfold St.store; split <;> simp
theorem St.flush_len (s : St) (x : Int) : (s.flush x).1.length = s.1.length := by unfold St.flush; split <;> simp
theorem St.back_len (s : St) (x : Int) : (s.back x).1.length = s.1.length := by unfold St.back; split <;> simp
theorem St.fence_len (s : St) : s.fence.1.length = s.1.length := by simp [St.fence]
theorem St.cut_len (s : St) (keep : List Int) : (s.cut keep).1.length = s.1.length := by simp [St.cut, keepAll_len]

theorem arr_cell {T : TypeId} {w : World} {g : Nat} {x : List UInt8} (h : Arr T w g x) (j : Nat) (hj : j < x.length) : w.cell? ⟨g, j, none⟩ = some (.int .u8 ((x.getD j 0).toNat : Nat)) := by
  unfold Arr at h
  simp [World.cell?, h, enc_at x j hj]
def one7 : Cl := Cl.zero.store 1 [7]
def st7 : List Cl := (fresh 2).set 0 one7
theorem one7_v : one7.v.length = 64 ∧ one7.v.getD 1 0 = 7 := by decide
theorem one7_p : one7.p.length = 64 ∧ one7.p.getD 1 0 = 0 := by decide
theorem st7_loose : looseL st7 = [0] := by decide
theorem st7_at : st7[0]? = some one7 := by rfl
set_option maxHeartbeats 1600000 in
theorem awake_any (w : World) : Calls Try.prog 11 #[] w fun e w' => e = .returned (.bool true) ∧ Below w.heap.size w w' := by
  have HN : Hid (Calls Try.prog 12 #[.int .i64 2] w (Made w 2)) := new_ok 2 (by omega) (by omega) w
  go_enter Try.func11, Try.ntmps11
  go_wp2_with fail
  refine HN.out.mono ?_
  rintro e w1 ⟨p, q, rfl, hp, hq, hd, hb⟩
  have hba : Below w1.heap.size w1 (w1.alloc (.cells #[.int .u8 7] 5)) := (Below.refl _ _).alloc (Nat.le_refl _) _
  have HS : Hid (Calls Try.prog 30 #[.pointer (some ⟨p, 0, none⟩), .int .i64 0, .int .i64 1, .slice (some ⟨w1.heap.size, 0, none⟩) 1 1] (w1.alloc (.cells #[.int .u8 7] 5)) fun e w' => e = .returned (.int .i64 0) ∧ DvP w' p q st7 (bump five0 0) ∧ Turns p q (w1.alloc (.cells #[.int .u8 7] 5)) w') :=
    store_ok (hd.below hba) (i := 0) (c := Cl.zero) rfl 1 (some ⟨w1.heap.size, 0, none⟩) 1 1 [7] rfl (by omega) (row_one w1 7) (by intro h; cases h)
  have HBA := Lib.hid (hb.trans (hba.mono hb.size))
  have HP := Lib.hid hp
  have HQ := Lib.hid hq
  clear hp hq hd hb hba
  go_wp2_with fail
  refine HS.out.mono ?_
  rintro e w2 ⟨rfl, hd2, ht2⟩
  have hb2 : Below w.heap.size w w2 := HBA.out.trans (ht2.below HP.out HQ.out (by have := HBA.out.size; exact this))
  have HL : Hid (Calls Try.prog 21 #[.pointer (some ⟨p, 0, none⟩), .int .i64 0] w2 (Loaded 77 w2 one7.v)) := load_ok hd2 (i := 0) st7_at
  have HD2 := Lib.hid hd2
  have HB2 := Lib.hid hb2
  clear hd2 ht2 hb2
  go_wp2_with fail
  refine HL.out.mono ?_
  rintro e w3 ⟨g3, rfl, hg3, ha3, hb3⟩
  have hd3 := HD2.out.below hb3
  have HB3 := Lib.hid (HB2.out.trans (hb3.mono HB2.out.size))
  have HL3 : Hid (Calls Try.prog 24 #[.pointer (some ⟨p, 0, none⟩), .int .i64 0] w3 (Loaded 77 w3 one7.p)) := durable_ok hd3 (i := 0) st7_at
  have HD3 := Lib.hid hd3
  have HA3 := Lib.hid ha3
  clear hd3 ha3 hb3 hg3
  go_wp2_with fail
  refine HL3.out.mono ?_
  rintro e w4 ⟨g4, rfl, hg4, ha4, hb4⟩
  have hd4 := HD3.out.below hb4
  have HB4 := Lib.hid (HB3.out.trans (hb4.mono HB3.out.size))
  have c3 := arr_cell (HA3.out.below hb4 HA3.out.lt) 1 (by have := one7_v.1; omega)
  have c4 := arr_cell ha4 1 (by have := one7_p.1; omega)
  rw [one7_v.2] at c3
  rw [one7_p.2] at c4
  have c3' : w4.cell? ⟨g3, 1, none⟩ = some (.int .u8 7) := c3
  have c4' : w4.cell? ⟨g4, 1, none⟩ = some (.int .u8 0) := c4
  have hlo := looses_ok hd4
  rw [st7_loose] at hlo
  have HLO := Lib.hid hlo
  clear hd4 ha4 hb4 hg4 c3 c4 hlo
  go_wp2_with fail
  refine HLO.out.mono ?_
  rintro e w5 ⟨V, rfl, ho, hb5⟩
  obtain ⟨A, cap, rfl, hrow, hcap, _⟩ := rowI_of_own ho (by decide)
  have HB5 := Lib.hid (HB4.out.trans (hb5.mono HB4.out.size))
  have hba : Below w5.heap.size w5 (w5.alloc (.cells #[.int .i64 0] 3)) := (Below.refl _ _).alloc (Nat.le_refl _) _
  have HSI : Hid (Calls Try.prog 33 #[.slice A 1 cap, .slice (some ⟨w5.heap.size, 0, none⟩) 1 1] (w5.alloc (.cells #[.int .i64 0] 3)) fun e w' => e = .returned (.bool true) ∧ ∃ k, w' = (w5.alloc (.cells #[.int .i64 0] 3)).drewN k) :=
    samei_any _ A (some ⟨w5.heap.size, 0, none⟩) 1 cap 1 [0] rfl (hrow.below hba) (rowI_one w5 0)
  have HB6 := Lib.hid (HB5.out.trans (hba.mono HB5.out.size))
  clear hba hrow hcap ho hb5
  go_wp2_with fail
  refine HSI.out.mono ?_
  rintro e w6 ⟨rfl, k, rfl⟩
  go_wp2
  go_ret
  exact ⟨rfl, below_drewN HB6.out _⟩

end Go.Proofs.Ytgfbehdnmdmnhaa
