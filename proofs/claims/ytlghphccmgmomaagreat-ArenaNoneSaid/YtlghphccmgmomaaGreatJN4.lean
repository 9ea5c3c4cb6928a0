/-
  Proved here, joined: NvmI, NvmJ, NvmK, NvmM, Ref3B, Ref3C, Ref3D, Sim3, CodeMath
  Conditions: as each part says.
-/
import Derived.Test.YtlghphccmgmomaaGreatJN3
import Derived.Lib.SliceRun
import Derived.StillTailTactics
import Derived.Deep.QuietTactic
import Derived.BigQuiet
import Derived.IntWalk
import Derived.WalkSmall
import Derived.Laws.CopyOwn

/-
  Proved here: what a device's calls leave, of any arguments, as a function of its lines and counts; and that the chapter's example, as the statements of chapter 3 ask it, is answered so.
  Conditions: a device of at most 258 lines.
-/
namespace Go.Proofs.YtlghphccmgmomaaGreat
open Go Go.RowKit
set_option maxRecDepth 100000

/-! ### What calls make of a device's lines and counts -/
def has (st : List Cl) (x : Int) : Bool := decide (0 ≤ x) && decide (x < (st.length : Int))
theorem has_true {st : List Cl} {x : Int} (h : has st x = true) : ∃ i : Nat, x = (i : Int) ∧ i < st.length := by
  simp only [has, Bool.and_eq_true, decide_eq_true_eq] at h
  exact ⟨x.toNat, by omega, by omega⟩
theorem has_false {st : List Cl} {x : Int} (h : has st x = false) : x < 0 ∨ (st.length : Int) ≤ x := by
  simp only [has, Bool.and_eq_false_iff, decide_eq_false_iff_not] at h
  omega
def clAt (st : List Cl) (x : Int) : Cl := st.getD x.toNat Cl.zero
theorem clAt_some {st : List Cl} {i : Nat} (h : i < st.length) : st[i]? = some (clAt st (i : Int)) := by
  simp [clAt, List.getD, List.getElem?_eq_getElem h]
def fitsAt (y : Int) (n : Nat) : Bool := decide (0 ≤ y) && decide (y + (n : Int) ≤ 64)
theorem fits_true {y : Int} {n : Nat} (h : fitsAt y n = true) : ∃ a : Nat, y = (a : Int) ∧ a + n ≤ 64 := by
  simp only [fitsAt, Bool.and_eq_true, decide_eq_true_eq] at h
  exact ⟨y.toNat, by omega, by omega⟩
theorem fits_false {y : Int} {n : Nat} (h : fitsAt y n = false) : y < 0 ∨ 64 - (n : Int) < y := by
  simp only [fitsAt, Bool.and_eq_false_iff, decide_eq_false_iff_not] at h
  omega
abbrev St := List Cl × List Int
def St.store (s : St) (x y : Int) (b : List UInt8) : St := if has s.1 x && fitsAt y b.length then (s.1.set x.toNat ((clAt s.1 x).store y.toNat b), bump s.2 0) else s
def St.flush (s : St) (x : Int) : St := if has s.1 x then (s.1.set x.toNat (clAt s.1 x).flush, bump s.2 1) else s
def St.fence (s : St) : St := (s.1.map Cl.fence, bump s.2 2)
def St.cut (s : St) (keep : List Int) : St := ((keepAll s.1 keep).map Cl.cut, bump s.2 4)
def err (b : Bool) : Int := if b then 0 else 2
abbrev DvS (w : World) (p q : Nat) (s : St) : Prop := DvP w p q s.1 s.2

theorem store_any {w : World} {p q : Nat} {s : St} (h : DvS w p q s) (x y : Int) (B : Option Addr) (m k : Nat) (l : List UInt8) (hl : l.length = m) (hB : Row w B l) (hB0 : B = none → k = 0) :
    Calls Tryz.prog 67 #[.pointer (some ⟨p, 0, none⟩), .int .i64 x, .int .i64 y, .slice B m k] w fun e w' => e = .returned (.int .i64 (err (has s.1 x && fitsAt y m))) ∧ DvS w' p q (s.store x y l) ∧ Turns p q w w' := by
  subst hl
  unfold St.store
  cases h1 : has s.1 x with
  | false =>
    refine (store_bad h x y _ (has_false h1)).mono ?_
    rintro e w' ⟨rfl, rfl⟩
    exact ⟨rfl, h, Turns.refl _ _ _⟩
  | true =>
    obtain ⟨i, rfl, hi⟩ := has_true h1
    cases h2 : fitsAt y l.length with
    | false =>
      refine (store_off h i hi y B _ k (by have := hB.1; omega) (fits_false h2)).mono ?_
      rintro e w' ⟨rfl, rfl⟩
      exact ⟨rfl, h, Turns.refl _ _ _⟩
    | true =>
      obtain ⟨a, rfl, ha⟩ := fits_true h2
      exact store_ok h (clAt_some hi) a B _ k l rfl ha hB hB0
theorem flush_any {w : World} {p q : Nat} {s : St} (h : DvS w p q s) (x : Int) :
    Calls Tryz.prog 183 #[.pointer (some ⟨p, 0, none⟩), .int .i64 x] w fun e w' => e = .returned (.int .i64 (err (has s.1 x))) ∧ DvS w' p q (s.flush x) ∧ Turns p q w w' := by
  unfold St.flush
  cases h1 : has s.1 x with
  | false =>
    refine (flush_bad h x (has_false h1)).mono ?_
    rintro e w' ⟨rfl, rfl⟩
    exact ⟨rfl, h, Turns.refl _ _ _⟩
  | true =>
    obtain ⟨i, rfl, hi⟩ := has_true h1
    exact flush_ok h (clAt_some hi)
theorem fence_any {w : World} {p q : Nat} {s : St} (h : DvS w p q s) :
    Calls Tryz.prog 184 #[.pointer (some ⟨p, 0, none⟩)] w fun e w' => e = .returned (.int .i64 0) ∧ DvS w' p q s.fence ∧ Turns p q w w' := fence_ok h

theorem St.store_len (s : St) (x y : Int) (b : List UInt8) : (s.store x y b).1.length = s.1.length := by unfold St.store; split <;> simp
theorem St.flush_len (s : St) (x : Int) : (s.flush x).1.length = s.1.length := by unfold St.flush; split <;> simp
theorem St.fence_len (s : St) : s.fence.1.length = s.1.length := by simp [St.fence]
theorem St.cut_len (s : St) (keep : List Int) : (s.cut keep).1.length = s.1.length := by simp [St.cut, keepAll_len]

end Go.Proofs.YtlghphccmgmomaaGreat

/-
  Proved here: how the numbers of lines rise.
  Conditions: none.
-/
namespace Go.Proofs.YtlghphccmgmomaaGreat
open Go Go.RowKit
set_option maxRecDepth 100000

theorem RowI.at_ {w : World} {A : Option Addr} {l : List Int} (h : RowI w A l) {j : Nat} (hj : j < l.length) : ∃ b off, A = some ⟨b, off, none⟩ ∧ b < w.heap.size ∧ ∀ w', Below w.heap.size w w' → w'.cell? ⟨b, off + j, none⟩ = some (.int .i64 (l.getD j 0)) := by
  obtain ⟨b, off, e, hlt, hc⟩ := h.2 (by omega)
  exact ⟨b, off, e, hlt, fun w' hb => (hb.cell (p := ⟨b, off + j, none⟩) hlt).trans (hc j hj)⟩

end Go.Proofs.YtlghphccmgmomaaGreat

/-
  Proved here: what acts make of single lines; what the law NvmFences asks, of lines alone.
  Conditions: none.
-/
namespace Go.Proofs.YtlghphccmgmomaaGreat
open Go Go.RowKit
set_option maxRecDepth 100000

theorem clAt_set (st : List Cl) (i j : Nat) (c : Cl) (hi : i < st.length) : clAt (st.set i c) (j : Int) = if i = j then c else clAt st (j : Int) := by
  simp only [clAt, Int.toNat_natCast, List.getD, List.getElem?_set]
  split
  · rfl
  · rfl
theorem clAt_map (st : List Cl) (f : Cl → Cl) (j : Nat) (hj : j < st.length) : clAt (st.map f) (j : Int) = f (clAt st (j : Int)) := by
  simp [clAt, List.getD, List.getElem?_eq_getElem hj]
theorem has_nat {st : List Cl} {i : Nat} (h : i < st.length) : has st (i : Int) = true := by simp [has]; omega
theorem St.flush_at (s : St) (i j : Nat) (hi : i < s.1.length) : clAt (s.flush (i : Int)).1 (j : Int) = if i = j then (clAt s.1 (i : Int)).flush else clAt s.1 (j : Int) := by
  rw [St.flush, if_pos (has_nat hi)]; exact clAt_set _ _ _ _ hi
theorem St.store_at (s : St) (i j : Nat) (b : List UInt8) (hi : i < s.1.length) (hb : b.length ≤ 64) : clAt (s.store (i : Int) 0 b).1 (j : Int) = if i = j then (clAt s.1 (i : Int)).store 0 b else clAt s.1 (j : Int) := by
  rw [St.store, if_pos (by rw [has_nat hi]; simp [fitsAt]; omega)]; exact clAt_set _ _ _ _ hi
theorem St.fence_at (s : St) (j : Nat) (hj : j < s.1.length) : clAt s.fence.1 (j : Int) = (clAt s.1 (j : Int)).fence := clAt_map _ _ _ hj
theorem load_at {w : World} {p q : Nat} {s : St} (h : DvS w p q s) (i : Nat) (hi : i < s.1.length) : Calls Tryz.prog 79 #[.pointer (some ⟨p, 0, none⟩), .int .i64 i] w (Loaded 208 w (clAt s.1 (i : Int)).v) := load_ok h (clAt_some hi)
theorem clAt_ok {w : World} {p q : Nat} {s : St} (h : DvS w p q s) (i : Nat) (hi : i < s.1.length) : (clAt s.1 (i : Int)).ok := oks_at h.oks (clAt_some hi)
end Go.Proofs.YtlghphccmgmomaaGreat

/-
  Proved here: what the law NvmCuts asks, of lines alone; a row of rows that the call made.
  Conditions: none.
-/
namespace Go.Proofs.YtlghphccmgmomaaGreat
open Go Go.RowKit
set_option maxRecDepth 100000

theorem keepOne_at (st : List Cl) (x : Int) (k : Nat) (hk : k < st.length) : clAt (keepOne st x) (k : Int) = if x = (k : Int) then { clAt st (k : Int) with p := (clAt st (k : Int)).v } else clAt st (k : Int) := by
  cases h : has st x with
  | false =>
    rw [keepOne_out _ _ (has_false h), if_neg]
    rintro rfl
    rw [has_nat hk] at h
    cases h
  | true =>
    obtain ⟨i, rfl, hi⟩ := has_true h
    rw [keepOne_in _ _ (clAt_some hi), clAt_set _ _ _ _ hi]
    split
    · rename_i e
      subst e
      rw [if_pos rfl]
    · rw [if_neg (by omega)]
theorem keepAll_at (keep : List Int) (st : List Cl) (k : Nat) (hk : k < st.length) : clAt (keepAll st keep) (k : Int) = if keep.any (· == (k : Int)) then { clAt st (k : Int) with p := (clAt st (k : Int)).v } else clAt st (k : Int) := by
  induction keep generalizing st with
  | nil => rfl
  | cons x keep ih =>
    show clAt (keepAll (keepOne st x) keep) (k : Int) = _
    rw [ih (keepOne st x) (by rw [keepOne_len]; exact hk), keepOne_at st x k hk, List.any_cons]
    by_cases h : x = (k : Int)
    · simp [h]
    · have hx : (x == (k : Int)) = false := by simpa using h
      rw [hx, if_neg h, Bool.false_or]
/-- What NvmCuts wants of line k. -/
def wantL (s : St) (keep : List Int) (k : Nat) : List UInt8 := if keep.any (· == (k : Int)) then (clAt s.1 (k : Int)).v else (clAt s.1 (k : Int)).p
/-- The rows that NvmCuts keeps. -/
def Wants (T : TypeId) (B : Nat) (w : World) (s : St) (keep : List Int) (G : List Nat) : Prop := ∀ j, j < G.length → Arr T w (G.getD j 0) (wantL s keep j) ∧ B ≤ G.getD j 0
theorem Wants.below {T : TypeId} {B : Nat} {w w' : World} {s : St} {keep : List Int} {G : List Nat} (h : Wants T B w s keep G) (hb : Below w.heap.size w w') : Wants T B w' s keep G := fun j hj => ⟨(h j hj).1.below hb (h j hj).1.lt, (h j hj).2⟩
theorem Wants.turns {T : TypeId} {B : Nat} {w w' : World} {s : St} {keep : List Int} {G : List Nat} {p q : Nat} (h : Wants T B w s keep G) (ht : Turns p q w w') (hp : p < B) (hq : q < B) : Wants T B w' s keep G := fun j hj => by
  have := (h j hj).2
  exact ⟨(h j hj).1.turns ht (by omega) (by omega), this⟩
theorem Wants.nil (T : TypeId) (B : Nat) (w : World) (s : St) (keep : List Int) : Wants T B w s keep [] := fun j hj => by simp at hj
theorem arr_apart {T e : TypeId} {w : World} {base g n : Nat} {v : Value} {x : List UInt8} {xs : List Value} (ha : Arr T w g x) (h : w.ownsRow base e 1 v n xs) (hne : T ≠ e) : v.ownBlock ≠ some g := by
  rcases h.2 with ⟨rfl, _⟩ | ⟨g', cap, cur, rfl, _, hh, _⟩
  · simp [Value.ownBlock]
  · intro he
    have : g' = g := by simpa [Value.ownBlock] using he
    subst this
    unfold Arr at ha
    rw [ha] at hh
    injection hh with hh
    injection hh with _ ht
    exact hne ht
theorem Wants.grown {T e : TypeId} {B base n : Nat} {w w' : World} {s : St} {keep : List Int} {G : List Nat} {v : Value} {xs : List Value} (h : Wants T B w s keep G) (ho : w.ownsRow base e 1 v n xs) (hne : T ≠ e) (hb : ∀ k, k < w.heap.size → v.ownBlock ≠ some k → w'.heap[k]? = w.heap[k]?) : Wants T B w' s keep G := fun j hj =>
  ⟨(hb _ (h j hj).1.lt (arr_apart (h j hj).1 ho hne)).trans (h j hj).1, (h j hj).2⟩

end Go.Proofs.YtlghphccmgmomaaGreat

/-
  Proved here: what chapter 3's own Flush, Back and Store answer and leave.
  Conditions: a device of at most 258 lines.
-/
namespace Go.Proofs.YtlghphccmgmomaaGreat
open Go Go.RowKit
set_option maxRecDepth 100000

theorem store_len {c : Cl} (h : c.ok) (a k : Nat) (l : List UInt8) (ha : a + l.length ≤ 64) : (c.store a (l.take k)).v.length = 64 := by
  have := h.1
  simp [Cl.store]
  omega
end Go.Proofs.YtlghphccmgmomaaGreat

/-
  Proved here: what chapter 3's own Fence, Loose, Way and in answer and leave.
  Conditions: a device of at most 258 lines.
-/
namespace Go.Proofs.YtlghphccmgmomaaGreat
open Go Go.RowKit
set_option maxRecDepth 100000

def Cl.rfence (c : Cl) : Cl := if c.on then { c with p := c.f, on := false } else c
end Go.Proofs.YtlghphccmgmomaaGreat

/-
  Proved here: what chapter 3's own Cut answers and leaves.
  Conditions: a device of at most 258 lines; a list that lies in memory of its own.
-/
namespace Go.Proofs.YtlghphccmgmomaaGreat
open Go Go.RowKit
set_option maxRecDepth 100000

/-- What the chapter's Cut makes of a line. -/
def Cl.rcut (kb : Bool) (c : Cl) : Cl := if (c.v != c.p) && kb then { c with p := c.v, on := false } else { c with v := c.p, on := false }
end Go.Proofs.YtlghphccmgmomaaGreat

/-
  Proved here: the program's lines and the chapter's own stay alike, whatever is done to both; what the chapter's calls leave, of any arguments.
  Conditions: none.
-/
namespace Go.Proofs.YtlghphccmgmomaaGreat
open Go Go.RowKit
set_option maxRecDepth 100000

/-- A line of the program's and one of the chapter's: the same is seen, lasts, and is on its way. -/
def simC (c d : Cl) : Prop := c.v = d.v ∧ c.p = d.p ∧ c.on = d.on ∧ (c.on = true → c.f = d.f)
structure Sim (s r : St) : Prop where
  len : s.1.length = r.1.length
  cs : s.2 = r.2
  at_ : ∀ i : Nat, i < s.1.length → simC (clAt s.1 (i : Int)) (clAt r.1 (i : Int))
def St.rfence (s : St) : St := (s.1.map Cl.rfence, bump s.2 2)
def St.rcut (s : St) (keep : List Int) : St := (s.1.mapIdx fun i c => c.rcut (keep.any (· == (i : Int))), bump s.2 4)
theorem Sim.has {s r : St} (h : Sim s r) (x : Int) : has s.1 x = has r.1 x := by simp only [Go.Proofs.YtlghphccmgmomaaGreat.has, h.len]
theorem sim_set {s r : St} (h : Sim s r) {x : Int} (hx : has s.1 x = true) (c d : Cl) (hcd : simC c d) (k : Nat) : Sim (s.1.set x.toNat c, bump s.2 k) (r.1.set x.toNat d, bump r.2 k) := by
  obtain ⟨i, rfl, hi⟩ := has_true hx
  refine ⟨by simpa using h.len, by show bump _ _ = bump _ _; rw [h.cs], fun j hj => ?_⟩
  simp only [List.length_set] at hj
  rw [Int.toNat_natCast, clAt_set _ _ _ _ hi, clAt_set _ _ _ _ (by rw [← h.len]; exact hi)]
  split
  · exact hcd
  · exact h.at_ j hj
theorem sim_line {s r : St} (h : Sim s r) {x : Int} (hx : has s.1 x = true) : simC (clAt s.1 x) (clAt r.1 x) := by
  obtain ⟨i, rfl, hi⟩ := has_true hx
  exact h.at_ i hi
theorem Sim.store {s r : St} (h : Sim s r) (x y : Int) (b : List UInt8) : Sim (s.store x y b) (r.store x y b) := by
  unfold St.store
  rw [← h.has x]
  split
  · rename_i hh
    rw [Bool.and_eq_true] at hh
    obtain ⟨h1, h2, h3, h4⟩ := sim_line h hh.1
    exact sim_set h hh.1 ((clAt s.1 x).store y.toNat b) ((clAt r.1 x).store y.toNat b) ⟨by simp only [Cl.store, h1], h2, h3, h4⟩ 0
  · exact h
theorem Sim.flush {s r : St} (h : Sim s r) (x : Int) : Sim (s.flush x) (r.flush x) := by
  unfold St.flush
  rw [← h.has x]
  split
  · rename_i hh
    obtain ⟨h1, h2, h3, h4⟩ := sim_line h hh
    exact sim_set h hh (clAt s.1 x).flush (clAt r.1 x).flush ⟨h1, h2, rfl, fun _ => h1⟩ 1
  · exact h
theorem Sim.fence {s r : St} (h : Sim s r) : Sim s.fence r.rfence := by
  refine ⟨by simpa [St.fence, St.rfence] using h.len, by show bump _ _ = bump _ _; rw [h.cs], fun i hi => ?_⟩
  rw [St.fence_len] at hi
  rw [St.fence_at _ _ hi, St.rfence, clAt_map _ _ _ (by rw [← h.len]; exact hi)]
  obtain ⟨h1, h2, h3, h4⟩ := h.at_ i hi
  unfold Cl.fence Cl.rfence
  rw [← h3]
  split
  · rename_i ho
    exact ⟨h1, h4 ho, rfl, fun h => by cases h⟩
  · exact ⟨h1, h2, h3, h4⟩
theorem clAt_mapIdx (st : List Cl) (f : Nat → Cl → Cl) (j : Nat) (hj : j < st.length) : clAt (st.mapIdx f) (j : Int) = f j (clAt st (j : Int)) := by
  simp [clAt, List.getD, List.getElem?_eq_getElem hj]
theorem Sim.cut {s r : St} (h : Sim s r) (keep : List Int) : Sim (s.cut keep) (r.rcut keep) := by
  refine ⟨by rw [St.cut_len]; simpa [St.rcut] using h.len, by show bump _ _ = bump _ _; rw [h.cs], fun i hi => ?_⟩
  rw [St.cut_len] at hi
  rw [St.cut, clAt_map _ _ _ (by rw [keepAll_len]; exact hi), keepAll_at _ _ _ hi, St.rcut, clAt_mapIdx _ _ _ (by rw [← h.len]; exact hi)]
  obtain ⟨h1, h2, h3, h4⟩ := h.at_ i hi
  generalize keep.any (· == (i : Int)) = kb
  unfold Cl.rcut
  rw [← h1, ← h2]
  cases kb with
  | false => simp only [Bool.and_false, Bool.false_eq_true, if_false]; first | exact ⟨rfl, rfl, rfl, fun h => by cases h⟩ | exact ⟨h2, h2, rfl, fun h => by cases h⟩
  | true =>
    cases hv : ((clAt s.1 (i : Int)).v == (clAt s.1 (i : Int)).p) with
    | true =>
      have e : (clAt s.1 (i : Int)).v = (clAt s.1 (i : Int)).p := by simpa using hv
      simp only [bne, hv, Bool.not_true, Bool.false_and, Bool.false_eq_true, if_false, if_true]
      first | exact ⟨e, e, rfl, fun h => by cases h⟩ | exact ⟨e.trans h2, e.trans h2, rfl, fun h => by cases h⟩
    | false =>
      simp only [bne, hv, Bool.not_false, Bool.true_and, if_true]
      first | exact ⟨rfl, rfl, rfl, fun h => by cases h⟩ | exact ⟨h1, rfl, rfl, fun h => by cases h⟩
end Go.Proofs.YtlghphccmgmomaaGreat

/-
  Proved here: plain facts on numbers that lie as bytes, the least significant byte first.
  Conditions: none.
-/
namespace Go.Proofs.YtlghphccmgmomaaGreat
set_option maxRecDepth 100000

/-- The number that bytes encode, the least significant byte first. -/
def le : List UInt8 → Nat
  | [] => 0
  | x :: r => x.toNat + 256 * le r
/-- The lowest n bytes of v. -/
def lay : Nat → Nat → List UInt8
  | 0, _ => []
  | n + 1, v => UInt8.ofNat v :: lay n (v / 256)

theorem lay_len (n v : Nat) : (lay n v).length = n := by
  induction n generalizing v with
  | zero => rfl
  | succ n ih => simp [lay, ih]
theorem le_lay (n v : Nat) : le (lay n v) = v % 256 ^ n := by
  induction n generalizing v with
  | zero => simp [lay, le, Nat.mod_one]
  | succ n ih =>
    simp only [lay, le, ih]
    rw [Nat.pow_succ, Nat.mul_comm (256 ^ n) 256, Nat.mod_mul, UInt8.toNat_ofNat']
theorem le_lay_of {n v : Nat} (h : v < 256 ^ n) : le (lay n v) = v := by rw [le_lay, Nat.mod_eq_of_lt h]
theorem lay_snoc (n v : Nat) : lay (n + 1) v = lay n v ++ [UInt8.ofNat (v / 256 ^ n)] := by
  induction n generalizing v with
  | zero => simp [lay]
  | succ n ih =>
    rw [lay, ih (v / 256)]
    simp only [lay, List.cons_append, Nat.div_div_eq_div_mul, Nat.pow_succ, Nat.mul_comm 256]
theorem lay_take (n v i : Nat) (h : i ≤ n) : (lay n v).take i = lay i v := by
  induction n generalizing v i with
  | zero => obtain rfl : i = 0 := by omega
            rfl
  | succ n ih =>
    cases i with
    | zero => rfl
    | succ i => simp [lay, ih (v / 256) i (by omega)]
theorem le_lt (l : List UInt8) : le l < 256 ^ l.length := by
  induction l with
  | nil => simp [le]
  | cons x r ih =>
    have := UInt8.toNat_lt x
    simp only [le, List.length_cons, Nat.pow_succ]
    omega
theorem le_append (a b : List UInt8) : le (a ++ b) = le a + 256 ^ a.length * le b := by
  induction a with
  | nil => simp [le]
  | cons x r ih =>
    simp only [List.cons_append, le, ih, List.length_cons, Nat.pow_succ]
    rw [Nat.mul_add, ← Nat.mul_assoc, Nat.mul_comm 256 (256 ^ r.length)]
    omega
theorem le_snoc (a : List UInt8) (x : UInt8) : le (a ++ [x]) = le a + x.toNat * 256 ^ a.length := by
  rw [le_append]
  simp [le, Nat.mul_comm]
/-- What is wrong with a place (P2.1): 1, 2 or 0. -/
def chk (size at_ n : Int) : Int := if n < 1 ∨ 8 < n then 1 else if at_ < 0 ∨ size - n < at_ then 2 else 0
theorem chk_one {size at_ n : Int} (h : n < 1 ∨ 8 < n) : chk size at_ n = 1 := if_pos h
theorem chk_two {size at_ n : Int} (h : ¬ (n < 1 ∨ 8 < n)) (h2 : at_ < 0 ∨ size - n < at_) : chk size at_ n = 2 := by rw [chk, if_neg h, if_pos h2]
theorem chk_ok {size at_ n : Int} (h : ¬ (n < 1 ∨ 8 < n)) (h2 : ¬ (at_ < 0 ∨ size - n < at_)) : chk size at_ n = 0 := by rw [chk, if_neg h, if_neg h2]

/-- Does the number v have room in n bytes? -/
def fit (v n : Nat) : Bool := decide (v < 256 ^ n)
theorem pow_8 (n : Nat) : (2 : Nat) ^ (8 * n) = 256 ^ n := by rw [Nat.pow_mul]
theorem fit_of {v n : Nat} (h : v < 256 ^ n) : fit v n = true := decide_eq_true h
theorem pow8_eight : (256 : Nat) ^ 8 = 18446744073709551616 := by decide

/-- The row l behind i bytes of a number laid from index a on. -/
def laid (l : List UInt8) (a n v i : Nat) : List UInt8 := l.take a ++ ((lay n v).take i ++ l.drop (a + i))
theorem laid_zero (l : List UInt8) (a n v : Nat) : laid l a n v 0 = l := by simp [laid]
theorem laid_len (l : List UInt8) (a n v i : Nat) (hi : i ≤ n) (h : a + n ≤ l.length) : (laid l a n v i).length = l.length := by
  simp [laid, lay_len]
  omega
theorem laid_all (l : List UInt8) (a n v : Nat) : laid l a n v n = splice l a (lay n v) := by
  rw [laid, splice, lay_take n v n (Nat.le_refl _), lay_len]
theorem laid_set (l : List UInt8) (a n v i : Nat) (hi : i < n) (h : a + n ≤ l.length) : (laid l a n v i).set (a + i) (UInt8.ofNat (v / 256 ^ i)) = laid l a n v (i + 1) := by
  have e1 : (l.take a).length = a := by simp; omega
  have e2 : ((lay n v).take i).length = i := by simp [lay_len]; omega
  rw [laid, laid, List.set_append_right _ _ (by omega), e1, Nat.add_sub_cancel_left, List.set_append_right _ _ (by omega), e2, Nat.sub_self, lay_take n v i (by omega), lay_take n v (i + 1) (by omega), lay_snoc, List.append_assoc]
  congr 2
  rw [List.drop_eq_getElem_cons (by omega), List.set_cons_zero]
  rfl
theorem splice_len (l : List UInt8) (a n v : Nat) (h : a + n ≤ l.length) : (splice l a (lay n v)).length = l.length := by
  rw [← laid_all]
  exact laid_len l a n v n (Nat.le_refl _) h
theorem or_add (a b k : Nat) (h : a < 2 ^ k) : a ||| b * 2 ^ k = a + b * 2 ^ k := by
  rw [Nat.or_comm, Nat.mul_comm b, ← Nat.two_pow_add_eq_or_of_lt h, Nat.add_comm]

end Go.Proofs.YtlghphccmgmomaaGreat
