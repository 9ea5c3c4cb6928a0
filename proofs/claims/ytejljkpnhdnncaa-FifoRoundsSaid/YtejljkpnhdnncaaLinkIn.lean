/-
  Proved here: links and truths that came in, alone and in a slice, read as lists.
  Conditions: none.
-/
import Derived.Test.YtejljkpnhdnncaaTabA
import Derived.Deep.Slices
import Derived.Deep.Fields
import Derived.ChangeSame
import Derived.OpenShut
namespace Go.Proofs.Ytejljkpnhdnncaa
open Go Go.RowKit
set_option maxRecDepth 100000

section
open Go.ChangeShapes Go.WideShapes Go.Deep
variable {H : Type} {enc : TypeId × Value → H} {w : World} {base : Nat} {spare : Nat → Bool} {held : Bool}
theorem u64_nat12 (x : Int) (h : (Lit.int .u64 x).wf = true) : ∃ n : Nat, x = n ∧ n < 18446744073709551616 := by
  have h1 : 0 ≤ x ∧ x < 18446744073709551616 := by
    simp [Lit.wf, IntKind.min, IntKind.max, IntKind.signed, IntKind.bits] at h
    omega
  obtain ⟨n, rfl⟩ := Int.eq_ofNat_of_zero_le h1.1
  exact ⟨n, rfl, by omega⟩
set_option maxRecDepth 100000 in
theorem link_cells {fuel : Nat} {cs : List Value} {x : DataW H × List MemPlace} (h : DataW.trod enc Try.prog w base spare held fuel 29 cs = some x) : ∃ e : Ln, cs = e.cells ∧ e.k.length ≤ maxLen := by
  obtain ⟨xs, n, _, _, hsz, hxl, hg⟩ := DataW.trod_struct Try.underlying29 h
  have hsz5 : cs.length = 5 := hsz.trans (by kernel_rfl)
  have hx5 : xs.length = 5 := hxl
  have one : ∀ (j : Nat) (f : Field), j < 5 → f.offset = j → Try.prog.cellsOf f.type = 1 → DataW.trod enc Try.prog w base spare held n f.type ((cs.drop f.offset).take (Try.prog.cellsOf f.type)) = xs[j]? → ∃ y z, cs[j]? = some y ∧ DataW.trod enc Try.prog w base spare held n f.type [y] = some z := by
    intro j f hj ho hc ht
    rw [ho, hc, List.drop_eq_getElem_cons (by omega), List.take_succ_cons, List.take_zero, List.getElem?_eq_getElem (by omega)] at ht
    exact ⟨_, _, List.getElem?_eq_getElem (by omega), ht⟩
  obtain ⟨y0, z0, e0, t0⟩ := one 0 _ (by omega) (by rfl) (by kernel_rfl) (hg 0 _ rfl)
  obtain ⟨y1, z1, e1, t1⟩ := one 1 _ (by omega) (by rfl) (by kernel_rfl) (hg 1 _ rfl)
  obtain ⟨y2, z2, e2, t2⟩ := one 2 _ (by omega) (by rfl) (by kernel_rfl) (hg 2 _ rfl)
  obtain ⟨y3, z3, e3, t3⟩ := one 3 _ (by omega) (by rfl) (by kernel_rfl) (hg 3 _ rfl)
  obtain ⟨y4, z4, e4, t4⟩ := one 4 _ (by omega) (by rfl) (by kernel_rfl) (hg 4 _ rfl)
  obtain ⟨a0, q0, _, g0⟩ := DataW.trod_string Try.underlying9 t0
  obtain ⟨a1, q1, _, g1⟩ := DataW.trod_int Try.underlying27 t1
  obtain ⟨a2, q2, _, g2⟩ := DataW.trod_int Try.underlying27 t2
  obtain ⟨a3, q3, _, _⟩ := DataW.trod_int Try.underlying3 t3
  obtain ⟨a4, q4, _, _⟩ := DataW.trod_int Try.underlying3 t4
  simp only [List.cons.injEq, and_true] at q0 q1 q2 q3 q4
  subst q0 q1 q2 q3 q4
  obtain ⟨m1, rfl, u1⟩ := u64_nat12 _ g1
  obtain ⟨m2, rfl, u2⟩ := u64_nat12 _ g2
  refine ⟨⟨a0.data.toList, m1, m2, a3, a4⟩, ?_, by rw [Array.length_toList]; exact g0⟩
  apply List.ext_getElem?
  intro j
  rcases j with _ | _ | _ | _ | _ | j
  · exact e0
  · exact e1
  · exact e2
  · exact e3
  · exact e4
  · rw [List.getElem?_eq_none (by omega)]; simp [Ln.cells]
theorem list_of {α : Type} (Q : Nat → α → Prop) (n : Nat) (h : ∀ i, i < n → ∃ x, Q i x) : ∃ xs : List α, xs.length = n ∧ ∀ i x, xs[i]? = some x → Q i x := by
  induction n with
  | zero => exact ⟨[], rfl, fun i x h => by cases h⟩
  | succ n ih =>
    obtain ⟨xs, hl, hx⟩ := ih (fun i hi => h i (by omega))
    obtain ⟨y, hy⟩ := h n (by omega)
    refine ⟨xs ++ [y], by simp [hl], fun i x hi => ?_⟩
    rcases Nat.lt_or_ge i xs.length with h1 | h1
    · rw [List.getElem?_append_left h1] at hi
      exact hx i x hi
    · rw [List.getElem?_append_right h1] at hi
      obtain ⟨h2, rfl⟩ := List.getElem?_eq_some_iff.1 hi
      have : i = n := by simp at h2; omega
      subst this
      simpa [hl] using hy
set_option maxRecDepth 100000 in
/-- A link that came in, as the walk is told of it. -/
theorem isLink_of {H : Type} {enc : TypeId × Value → H} {w : World} {base b0 : Nat} {spare : Nat → Bool} {held : Bool} {r : Reach} {v : Value} {d : DataW H} {p : List MemPlace}
    (hv : Value.okWide Try.prog w r b0 29 v) (h : DataW.Trod enc Try.prog w base spare held 29 v d p) : ∃ x : Ln, v = x.agg ∧ x.k.length ≤ maxLen := by
  obtain ⟨cs, rfl, hsz⟩ := okWide_struct Try.underlying29 hv
  obtain ⟨fuel, hf⟩ := h
  obtain ⟨x, hx, hk⟩ := link_cells hf
  refine ⟨x, ?_, hk⟩
  rw [Ln.agg_cells]
  congr 1
  apply Array.ext'
  rw [← hx]
  rfl
/-- Links that came in, read as a list. -/
def IsLinks (w : World) (a : Option Addr) (len : Nat) (xs : List Ln) : Prop :=
  (xs.length = len ∧ ∀ x ∈ xs, x.k.length ≤ maxLen) ∧ len ≤ maxLen ∧ (0 < len → ∃ b off, a = some ⟨b, off, none⟩ ∧ b < w.heap.size ∧ ∀ i x, xs[i]? = some x → ∀ j v, x.cells[j]? = some v → w.cell? ⟨b, off + i * 5 + j, none⟩ = some v)
theorem IsLinks.below {w w' : World} {a : Option Addr} {len : Nat} {xs : List Ln} (h : IsLinks w a len xs) (hb : Below w.heap.size w w') : IsLinks w' a len xs :=
  ⟨h.1, h.2.1, fun hl => by
    obtain ⟨b, off, e, hlt, hc⟩ := h.2.2 hl
    exact ⟨b, off, e, Nat.lt_of_lt_of_le hlt hb.size, fun i x hx j v hv => (hb.cell (p := ⟨b, off + i * 5 + j, none⟩) hlt).trans (hc i x hx j v hv)⟩⟩
theorem IsLinks.row {w : World} {a : Option Addr} {len : Nat} {xs : List Ln} (h : IsLinks w a len xs) (hl : len ≤ 1048576) : RowL w a xs :=
  ⟨by rw [h.1.1]; exact hl, fun hpos => h.2.2 (by rw [← h.1.1]; exact hpos)⟩
theorem isLinks_of {fuel : Nat} {a : Option Addr} {len cap : Nat} {x : DataW H × List MemPlace}
    (h : DataW.trod enc Try.prog w base (fun _ => true) held fuel 22 [.slice a len cap] = some x) : ∃ xs, IsLinks w a len xs := by
  rcases open_slice Try.underlying22 h with h0 | ⟨ad, l, c, m, n, D, Pl, hcs, hb, hl, hm, hmm, hx, hf⟩
  · have h1 := h0.1
    simp only [List.cons.injEq, Value.slice.injEq, and_true] at h1
    obtain ⟨rfl, rfl, rfl⟩ := h1
    exact ⟨[], ⟨rfl, by simp⟩, by simp, fun h => by omega⟩
  · simp only [List.cons.injEq, Value.slice.injEq, and_true] at hcs
    obtain ⟨rfl, rfl, rfl⟩ := hcs
    have k5 : Try.prog.cellsOf 29 = 5 := by kernel_rfl
    have hall : ∀ i, i < len → ∃ x : Ln, x.k.length ≤ maxLen ∧ ∀ j v, x.cells[j]? = some v → w.cell? (ad.add (i * 5 + j)) = some v := by
      intro i hi
      obtain ⟨cs', hc, ht'⟩ := hf i (by rw [hmm]; split <;> omega)
      rw [k5] at hc
      obtain ⟨_, hcl, hat⟩ := World.cells?_some hc
      obtain ⟨y, rfl, hy⟩ := link_cells ht'
      refine ⟨y, hy, fun j v hv => ?_⟩
      have hj : j < 5 := by rw [← hcl]; exact (List.getElem?_eq_some_iff.1 hv).1
      rw [← Go.Deep.add_add, hat j hj, hv]
    obtain ⟨xs, hxl, hx⟩ := list_of _ len hall
    refine ⟨xs, ⟨hxl, fun x hxm => by obtain ⟨i, hi, e⟩ := List.getElem_of_mem hxm; exact (hx i x (by rw [List.getElem?_eq_getElem hi, e])).1⟩, by omega, fun hpos => ?_⟩
    obtain ⟨x0, _, h0⟩ := hall 0 hpos
    have h00 := h0 0 _ rfl
    obtain ⟨b, off, spot⟩ := ad
    have hspot : spot = none := by simpa [Addr.add] using World.cell?_spot h00
    subst hspot
    refine ⟨b, off, rfl, by simpa [Addr.add] using World.block_lt_of_cell? _ _ h00, fun i x hi j v hv => ?_⟩
    rw [Nat.add_assoc, ← add_plain]
    exact (hx i x hi).2 j v hv
/-- Truths that came in, read as a list. -/
def IsBools (w : World) (a : Option Addr) (len : Nat) (xs : List Bool) : Prop :=
  xs.length = len ∧ len ≤ maxLen ∧ (0 < len → ∃ b off, a = some ⟨b, off, none⟩ ∧ b < w.heap.size ∧ ∀ i x, xs[i]? = some x → w.cell? ⟨b, off + i, none⟩ = some (.bool x))
theorem IsBools.below {w w' : World} {a : Option Addr} {len : Nat} {xs : List Bool} (h : IsBools w a len xs) (hb : Below w.heap.size w w') : IsBools w' a len xs :=
  ⟨h.1, h.2.1, fun hl => by
    obtain ⟨b, off, e, hlt, hc⟩ := h.2.2 hl
    exact ⟨b, off, e, Nat.lt_of_lt_of_le hlt hb.size, fun i x hx => (hb.cell (p := ⟨b, off + i, none⟩) hlt).trans (hc i x hx)⟩⟩
/-- tS: the slice's type, tB: its element's, whose underlying type is bool. -/
theorem isBools_at {tS tB : TypeId} (hS : Try.prog.underlying tS = some (.slice tB)) (hB : Try.prog.underlying tB = some .bool) (k1 : Try.prog.cellsOf tB = 1) {fuel : Nat} {a : Option Addr} {len cap : Nat} {x : DataW H × List MemPlace}
    (h : DataW.trod enc Try.prog w base (fun _ => true) held fuel tS [.slice a len cap] = some x) : ∃ xs, IsBools w a len xs := by
  rcases open_slice hS h with h0 | ⟨ad, l, c, m, n, D, Pl, hcs, hb, hl, hm, hmm, hx, hf⟩
  · have h1 := h0.1
    simp only [List.cons.injEq, Value.slice.injEq, and_true] at h1
    obtain ⟨rfl, rfl, rfl⟩ := h1
    exact ⟨[], rfl, by simp, fun h => by omega⟩
  · simp only [List.cons.injEq, Value.slice.injEq, and_true] at hcs
    obtain ⟨rfl, rfl, rfl⟩ := hcs
    have hall : ∀ i, i < len → ∃ x : Bool, w.cell? (ad.add i) = some (.bool x) := by
      intro i hi
      obtain ⟨cs', hc, ht'⟩ := hf i (by rw [hmm]; split <;> omega)
      rw [k1] at hc
      obtain ⟨_, hcl, hat⟩ := World.cells?_some hc
      obtain ⟨y, q, _⟩ := DataW.trod_bool hB ht'
      refine ⟨y, ?_⟩
      have h0 := hat 0 (by omega)
      rw [Go.Deep.add_add, Nat.mul_one, Nat.add_zero] at h0
      rw [h0, q]
      rfl
    obtain ⟨xs, hxl, hx⟩ := list_of _ len hall
    refine ⟨xs, hxl, by omega, fun hpos => ?_⟩
    obtain ⟨x0, h0⟩ := hall 0 hpos
    obtain ⟨b, off, spot⟩ := ad
    have hspot : spot = none := by simpa [Addr.add] using World.cell?_spot h0
    subst hspot
    refine ⟨b, off, rfl, by simpa [Addr.add] using World.block_lt_of_cell? _ _ h0, fun i x hi => ?_⟩
    rw [← add_plain]
    exact hx i x hi
end

end Go.Proofs.Ytejljkpnhdnncaa
