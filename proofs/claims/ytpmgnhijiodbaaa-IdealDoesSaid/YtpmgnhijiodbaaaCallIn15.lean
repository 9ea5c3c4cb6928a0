/-
  Proved here: calls and stores that came in, alone and in slices, read as lists.
  Conditions: none.
-/
import Derived.Test.YtpmgnhijiodbaaaAwake15
import Derived.Deep.Slices
import Derived.Deep.Fields
import Derived.ChangeSame
import Derived.OpenShut
namespace Go.Proofs.Ytpmgnhijiodbaaa
open Go Go.RowKit
set_option maxRecDepth 100000

section
open Go.ChangeShapes Go.WideShapes Go.Deep
variable {H : Type} {enc : TypeId × Value → H} {w : World} {base : Nat} {spare : Nat → Bool} {held : Bool}
theorem list_of {α : Type} (Q : Nat → α → Prop) (n : Nat) (h : ∀ i, i < n → ∃ x, Q i x) : ∃ xs : List α, xs.length = n ∧ ∀ i x, xs[i]? = some x → Q i x := by
  induction n with
  | zero => exact ⟨[], rfl, fun i x h => by cases h⟩
  | succ n ih =>
    obtain ⟨xs, hl, hx⟩ := ih (fun i hi => h i (by omega))
    obtain ⟨y, hy⟩ := h n (by omega)
    refine ⟨xs ++ [y], by simp [hl], fun i x hi => ?_⟩
    rcases Nat.lt_or_ge i xs.length with h1 | h1
    · rw [List.getElem?_append_left h1] at hi
      exact hx i x hi
    · rw [List.getElem?_append_right h1] at hi
      obtain ⟨h2, rfl⟩ := List.getElem?_eq_some_iff.1 hi
      have : i = n := by simp at h2; omega
      subst this
      simpa [hl] using hy
/-- Elements that came in, read as a list. -/
def Rec.Is {α : Type} (R : Rec α) (w : World) (A : Option Addr) (n c : Nat) (l : List α) : Prop :=
  l.length = n ∧ n ≤ c ∧ c ≤ maxLen ∧ (A = none → c = 0) ∧ (0 < n → ∃ b off, A = some ⟨b, off, none⟩ ∧ b < w.heap.size ∧ ∀ i e, l[i]? = some e → ∀ j u, (R.cells e)[j]? = some u → w.cell? ⟨b, off + i * R.k + j, none⟩ = some u)
theorem Rec.Is.below {α : Type} {R : Rec α} {w w' : World} {A : Option Addr} {n c : Nat} {l : List α} (h : R.Is w A n c l) (hb : Below w.heap.size w w') : R.Is w' A n c l :=
  ⟨h.1, h.2.1, h.2.2.1, h.2.2.2.1, fun hl => by
    obtain ⟨b, off, e, hlt, hc⟩ := h.2.2.2.2 hl
    exact ⟨b, off, e, Nat.lt_of_lt_of_le hlt hb.size, fun i x hx j v hv => (hb.cell (p := ⟨b, off + i * R.k + j, none⟩) hlt).trans (hc i x hx j v hv)⟩⟩
theorem Rec.Is.row {α : Type} {R : Rec α} {w : World} {A : Option Addr} {n c : Nat} {l : List α} (h : R.Is w A n c l) (hl : n ≤ 1048576) : R.Row w A l :=
  ⟨by rw [h.1]; exact hl, fun hpos => h.2.2.2.2 (by rw [← h.1]; exact hpos)⟩
theorem Rec.Is.nil {α : Type} {R : Rec α} {w : World} {A : Option Addr} {n c : Nat} {l : List α} (h : R.Is w A n c l) (hl : l = []) : n = 0 := by have := h.1; rw [hl] at this; exact this.symm
set_option maxRecDepth 100000 in
theorem Rec.is_of {α : Type} (R : Rec α) (P : α → Prop) (hk : Try.prog.cellsOf R.tE = R.k) (hC : ∀ {n : Nat} {cs : List Value} {x : DataW H × List MemPlace}, DataW.trod enc Try.prog w base (fun _ => true) held n R.tE cs = some x → ∃ e, cs = R.cells e ∧ P e)
    {fuel : Nat} {a : Option Addr} {len cap : Nat} {x : DataW H × List MemPlace} (h : DataW.trod enc Try.prog w base (fun _ => true) held fuel R.tS [.slice a len cap] = some x) : ∃ xs, R.Is w a len cap xs ∧ ∀ x ∈ xs, P x := by
  rcases open_slice R.und h with h0 | ⟨ad, l, c, m, n, D, Pl, hcs, hb, hl, hm, hmm, hx, hf⟩
  · have h1 := h0.1
    simp only [List.cons.injEq, Value.slice.injEq, and_true] at h1
    obtain ⟨rfl, rfl, rfl⟩ := h1
    exact ⟨[], ⟨rfl, Nat.le_refl _, Nat.zero_le _, fun _ => rfl, fun h => absurd h (Nat.lt_irrefl _)⟩, fun x hx => by cases hx⟩
  · simp only [List.cons.injEq, Value.slice.injEq, and_true] at hcs
    obtain ⟨rfl, rfl, rfl⟩ := hcs
    have hall : ∀ i, i < len → ∃ x : α, P x ∧ ∀ j v, (R.cells x)[j]? = some v → w.cell? (ad.add (i * R.k + j)) = some v := by
      intro i hi
      obtain ⟨cs', hc, ht'⟩ := hf i (by rw [hmm]; split <;> omega)
      rw [hk] at hc
      obtain ⟨_, hcl, hat⟩ := World.cells?_some hc
      obtain ⟨y, rfl, hy⟩ := hC ht'
      refine ⟨y, hy, fun j v hv => ?_⟩
      have hj : j < R.k := by rw [← hcl]; exact (List.getElem?_eq_some_iff.1 hv).1
      rw [← Go.Deep.add_add, hat j hj, hv]
    obtain ⟨xs, hxl, hx⟩ := list_of _ len hall
    refine ⟨xs, ⟨hxl, hl, hm, fun h => (by cases h), fun hpos => ?_⟩, fun x hxm => by obtain ⟨i, hi, e⟩ := List.getElem_of_mem hxm; exact (hx i x (by rw [List.getElem?_eq_getElem hi, e])).1⟩
    obtain ⟨x0, _, h0⟩ := hall 0 hpos
    have hk0 := R.hk
    have hc0 : 0 < (R.cells x0).length := by rw [R.klen]; exact hk0
    have h00 := h0 0 _ (List.getElem?_eq_getElem hc0)
    obtain ⟨b, off, spot⟩ := ad
    have hspot : spot = none := by simpa [Addr.add] using World.cell?_spot h00
    subst hspot
    refine ⟨b, off, rfl, by simpa [Addr.add] using World.block_lt_of_cell? _ _ h00, fun i x hi j v hv => ?_⟩
    rw [Nat.add_assoc, ← add_plain]
    exact (hx i x hi).2 j v hv
/-- A slice in a cell. -/
theorem slice_cell {t e : TypeId} (ht : Try.prog.underlying t = some (.slice e)) {n : Nat} {v : Value} {x : DataW H × List MemPlace} (h : DataW.trod enc Try.prog w base spare held n t [v] = some x) : ∃ A m c, v = .slice A m c ∧ m ≤ c ∧ c ≤ maxLen ∧ (A = none → c = 0) := by
  rcases open_slice ht h with h0 | ⟨ad, l, c, m, n, D, Pl, hcs, hb, hl, hm, hmm, hx, hf⟩
  · have h1 := h0.1
    simp only [List.cons.injEq, and_true] at h1
    exact ⟨none, 0, 0, h1, Nat.le_refl _, Nat.zero_le _, fun _ => rfl⟩
  · simp only [List.cons.injEq, and_true] at hcs
    exact ⟨some ad, l, c, hcs, hl, hm, fun h => by cases h⟩
set_option maxRecDepth 100000 in
theorem text_cells {fuel : Nat} {cs : List Value} {x : DataW H × List MemPlace} (h : DataW.trod enc Try.prog w base spare held fuel 9 cs = some x) : ∃ e : ByteArray, cs = RS.cells e ∧ True := by
  obtain ⟨a0, q0, _, g0⟩ := DataW.trod_string Try.underlying9 h
  exact ⟨a0, q0, trivial⟩
set_option maxRecDepth 100000 in
theorem pair_cells {fuel : Nat} {cs : List Value} {x : DataW H × List MemPlace} (h : DataW.trod enc Try.prog w base spare held fuel 42 cs = some x) : ∃ e : Kv, cs = RP.cells e ∧ True := by
  obtain ⟨xs, n, _, _, hsz, hxl, hg⟩ := DataW.trod_struct Try.underlying42 h
  have hsz5 : cs.length = 2 := hsz.trans (by kernel_rfl)
  have hx5 : xs.length = 2 := hxl
  have one : ∀ (j : Nat) (f : Field), j < 2 → f.offset = j → Try.prog.cellsOf f.type = 1 → DataW.trod enc Try.prog w base spare held n f.type ((cs.drop f.offset).take (Try.prog.cellsOf f.type)) = xs[j]? → ∃ y z, cs[j]? = some y ∧ DataW.trod enc Try.prog w base spare held n f.type [y] = some z := by
    intro j f hj ho hc ht
    rw [ho, hc, List.drop_eq_getElem_cons (by omega), List.take_succ_cons, List.take_zero, List.getElem?_eq_getElem (by omega)] at ht
    exact ⟨_, _, List.getElem?_eq_getElem (by omega), ht⟩
  obtain ⟨y0, z0, e0, t0⟩ := one 0 _ (by omega) (by rfl) (by kernel_rfl) (hg 0 _ rfl)
  obtain ⟨y1, z1, e1, t1⟩ := one 1 _ (by omega) (by rfl) (by kernel_rfl) (hg 1 _ rfl)
  obtain ⟨a0, q0, _, g0⟩ := DataW.trod_string Try.underlying9 t0
  obtain ⟨a1, q1, _, g1⟩ := DataW.trod_string Try.underlying9 t1
  simp only [List.cons.injEq, and_true] at q0 q1
  subst q0 q1
  refine ⟨⟨a0, a1⟩, ?_, trivial⟩
  apply List.ext_getElem?
  intro j
  rcases j with _ | _ | j
  · exact e0
  · exact e1
  · rw [List.getElem?_eq_none (by omega)]; simp [RP, Kv.cells]
/-- What every call that came in keeps. -/
def CalIn (x : Cal) : Prop := x.gn ≤ x.gc ∧ x.gc ≤ maxLen ∧ (x.ga = none → x.gc = 0)
set_option maxRecDepth 100000 in
theorem call_cells {fuel : Nat} {cs : List Value} {x : DataW H × List MemPlace} (h : DataW.trod enc Try.prog w base spare held fuel 31 cs = some x) : ∃ e : Cal, cs = RC.cells e ∧ CalIn e ∧ ∃ m z, DataW.trod enc Try.prog w base spare held m 29 [.slice e.ga e.gn e.gc] = some z := by
  obtain ⟨xs, n, _, _, hsz, hxl, hg⟩ := DataW.trod_struct Try.underlying31 h
  have hsz5 : cs.length = 5 := hsz.trans (by kernel_rfl)
  have hx5 : xs.length = 5 := hxl
  have one : ∀ (j : Nat) (f : Field), j < 5 → f.offset = j → Try.prog.cellsOf f.type = 1 → DataW.trod enc Try.prog w base spare held n f.type ((cs.drop f.offset).take (Try.prog.cellsOf f.type)) = xs[j]? → ∃ y z, cs[j]? = some y ∧ DataW.trod enc Try.prog w base spare held n f.type [y] = some z := by
    intro j f hj ho hc ht
    rw [ho, hc, List.drop_eq_getElem_cons (by omega), List.take_succ_cons, List.take_zero, List.getElem?_eq_getElem (by omega)] at ht
    exact ⟨_, _, List.getElem?_eq_getElem (by omega), ht⟩
  obtain ⟨y0, z0, e0, t0⟩ := one 0 _ (by omega) (by rfl) (by kernel_rfl) (hg 0 _ rfl)
  obtain ⟨y1, z1, e1, t1⟩ := one 1 _ (by omega) (by rfl) (by kernel_rfl) (hg 1 _ rfl)
  obtain ⟨y2, z2, e2, t2⟩ := one 2 _ (by omega) (by rfl) (by kernel_rfl) (hg 2 _ rfl)
  obtain ⟨y3, z3, e3, t3⟩ := one 3 _ (by omega) (by rfl) (by kernel_rfl) (hg 3 _ rfl)
  obtain ⟨y4, z4, e4, t4⟩ := one 4 _ (by omega) (by rfl) (by kernel_rfl) (hg 4 _ rfl)
  obtain ⟨a0, q0, _, _⟩ := DataW.trod_int Try.underlying3 t0
  obtain ⟨a1, q1, _, g1⟩ := DataW.trod_string Try.underlying9 t1
  obtain ⟨a2, q2, _, g2⟩ := DataW.trod_string Try.underlying9 t2
  obtain ⟨a3, q3, _, g3⟩ := DataW.trod_string Try.underlying9 t3
  obtain ⟨A, m, c, rfl, s1, s2, s3⟩ := slice_cell Try.underlying29 t4
  simp only [List.cons.injEq, and_true] at q0 q1 q2 q3
  subst q0 q1 q2 q3
  refine ⟨⟨a0, a1, a2, a3, A, m, c⟩, ?_, ⟨s1, s2, s3⟩, n, _, t4⟩
  apply List.ext_getElem?
  intro j
  rcases j with _ | _ | _ | _ | _ | j
  · exact e0
  · exact e1
  · exact e2
  · exact e3
  · exact e4
  · rw [List.getElem?_eq_none (by omega)]; simp [RC, Cal.cells]
/-- A call's group as it came in. -/
def GrpIn (w : World) (x : Cal) (G : List Cal) : Prop := RC.Is w x.ga x.gn x.gc G ∧ ∀ y ∈ G, CalIn y
theorem GrpIn.below {w w' : World} {x : Cal} {G : List Cal} (h : GrpIn w x G) (hb : Below w.heap.size w w') : GrpIn w' x G := ⟨h.1.below hb, h.2⟩
theorem group_in {fuel : Nat} {x : Cal} {z : DataW H × List MemPlace} (h : DataW.trod enc Try.prog w base (fun _ => true) held fuel 29 [.slice x.ga x.gn x.gc] = some z) : ∃ G, GrpIn w x G := by
  obtain ⟨G, h1, h2⟩ := RC.is_of CalIn (by kernel_rfl) (fun h => by obtain ⟨e, q, g, _⟩ := call_cells h; exact ⟨e, q, g⟩) h
  exact ⟨G, h1, h2⟩
set_option maxRecDepth 100000 in
/-- A call that came in. -/
theorem isCall_of {b0 : Nat} {r : Reach} {v : Value} {d : DataW H} {p : List MemPlace} (hv : Value.okWide Try.prog w r b0 31 v) (h : DataW.Trod enc Try.prog w base (fun _ => true) held 31 v d p) : ∃ x : Cal, v = x.agg ∧ ∃ G, GrpIn w x G := by
  obtain ⟨cs, rfl, hsz⟩ := okWide_struct Try.underlying31 hv
  obtain ⟨fuel, hf⟩ := h
  obtain ⟨x, hx, _, m, z, hz⟩ := call_cells hf
  refine ⟨x, ?_, group_in hz⟩
  rw [Cal.agg_cells]
  congr 1
  apply Array.ext'
  rw [show cs.toList = x.cells from hx]
set_option maxRecDepth 100000 in
/-- Calls that came in. -/
theorem isCalls_of {fuel : Nat} {a : Option Addr} {len cap : Nat} {x : DataW H × List MemPlace} (h : DataW.trod enc Try.prog w base (fun _ => true) held fuel 29 [.slice a len cap] = some x) : ∃ xs, RC.Is w a len cap xs ∧ ∀ x ∈ xs, ∃ G, GrpIn w x G :=
  RC.is_of (fun x => ∃ G, GrpIn w x G) (by kernel_rfl) (fun h => by obtain ⟨e, q, _, m, z, hz⟩ := call_cells h; exact ⟨e, q, group_in hz⟩) h
set_option maxRecDepth 100000 in
/-- A store that came in. -/
theorem isShelf_of {b0 : Nat} {r : Reach} {v : Value} {d : DataW H} {p : List MemPlace} (hv : Value.okWide Try.prog w r b0 25 v) (h : DataW.Trod enc Try.prog w base (fun _ => true) held 25 v d p) : ∃ A n c B m e, v = .agg #[.slice A n c, .slice B m e] ∧ ∃ L Q, RP.Is w A n c L ∧ RS.Is w B m e Q := by
  obtain ⟨cs, rfl, hsz⟩ := okWide_struct Try.underlying25 hv
  obtain ⟨fuel, hf⟩ := h
  obtain ⟨xs, n, _, _, hsz, hxl, hg⟩ := DataW.trod_struct Try.underlying25 hf
  obtain ⟨cs, rfl⟩ : ∃ l : List Value, cs = l.toArray := ⟨cs.toList, rfl⟩
  have hsz5 : cs.length = 2 := hsz.trans (by kernel_rfl)
  have hx5 : xs.length = 2 := hxl
  have one : ∀ (j : Nat) (f : Field), j < 2 → f.offset = j → Try.prog.cellsOf f.type = 1 → DataW.trod enc Try.prog w base (fun _ => true) held n f.type ((cs.drop f.offset).take (Try.prog.cellsOf f.type)) = xs[j]? → ∃ y z, cs[j]? = some y ∧ DataW.trod enc Try.prog w base (fun _ => true) held n f.type [y] = some z := by
    intro j f hj ho hc ht
    rw [ho, hc, List.drop_eq_getElem_cons (by omega), List.take_succ_cons, List.take_zero, List.getElem?_eq_getElem (by omega)] at ht
    exact ⟨_, _, List.getElem?_eq_getElem (by omega), ht⟩
  obtain ⟨y0, z0, e0, t0⟩ := one 0 _ (by omega) (by rfl) (by kernel_rfl) (hg 0 _ rfl)
  obtain ⟨y1, z1, e1, t1⟩ := one 1 _ (by omega) (by rfl) (by kernel_rfl) (hg 1 _ rfl)
  obtain ⟨A, k, c, rfl, _⟩ := slice_cell Try.underlying22 t0
  obtain ⟨B, m, e, rfl, _⟩ := slice_cell Try.underlying23 t1
  obtain ⟨L, h1, _⟩ := RP.is_of (fun _ => True) (by kernel_rfl) pair_cells t0
  obtain ⟨Q, h2, _⟩ := RS.is_of (fun _ => True) (by kernel_rfl) text_cells t1
  refine ⟨A, k, c, B, m, e, ?_, L, Q, h1, h2⟩
  congr 1
  apply Array.ext'
  show cs = _
  apply List.ext_getElem?
  intro j
  rcases j with _ | _ | j
  · exact e0
  · exact e1
  · rw [List.getElem?_eq_none (by omega)]; simp
end

end Go.Proofs.Ytpmgnhijiodbaaa
