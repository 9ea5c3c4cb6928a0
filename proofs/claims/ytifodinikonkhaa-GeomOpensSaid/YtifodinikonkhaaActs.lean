/-
  Proved here: a list of acts that came in, read as a list; what is known of each.
  Conditions: none.
-/
import Derived.Test.YtifodinikonkhaaNvmI
import Derived.Deep.Slices
import Derived.Deep.Fields
import Derived.ChangeSame
namespace Go.Proofs.Ytifodinikonkhaa
open Go Go.RowKit

/-- An act of the statements', as it came in. -/
structure ActV where
  kd : Int
  line : Int
  off : Int
  A : Option Addr
  n : Nat
  c : Nat
  b : List UInt8
  K : Option Addr
  m : Nat
  d : Nat
  keep : List Int
def ActV.cells (x : ActV) : List Value := [.int .i64 x.kd, .int .i64 x.line, .int .i64 x.off, .slice x.A x.n x.c, .slice x.K x.m x.d]
/-- What is known of an act that came in. -/
structure ActV.ok (w : World) (x : ActV) : Prop where
  n_le : x.n ≤ maxLen
  m_le : x.m ≤ maxLen
  row : x.n ≤ 100 → x.b.length = x.n ∧ Row w x.A x.b
  a0 : x.A = none → x.c = 0
  rowK : x.m ≤ 100 → x.keep.length = x.m ∧ RowI w x.K x.keep
  k0 : x.K = none → x.d = 0
def IsActs (w : World) (a : Option Addr) (len : Nat) (xs : List ActV) : Prop :=
  xs.length = len ∧ len ≤ maxLen ∧ (0 < len → ∃ b off, a = some ⟨b, off, none⟩ ∧ b < w.heap.size ∧ ∀ i x, xs[i]? = some x → ∀ j v, x.cells[j]? = some v → w.cell? ⟨b, off + (i * 5 + j), none⟩ = some v) ∧ ∀ x ∈ xs, x.ok w

theorem ActV.ok.below {w w' : World} {x : ActV} (h : x.ok w) (hb : Below w.heap.size w w') : x.ok w' :=
  ⟨h.n_le, h.m_le, fun hn => ⟨(h.row hn).1, (h.row hn).2.below hb⟩, h.a0, fun hm => ⟨(h.rowK hm).1, (h.rowK hm).2.below hb⟩, h.k0⟩
theorem IsActs.below {w w' : World} {a : Option Addr} {len : Nat} {xs : List ActV} (h : IsActs w a len xs) (hb : Below w.heap.size w w') : IsActs w' a len xs :=
  ⟨h.1, h.2.1, fun hl => by
    obtain ⟨b, off, e, hlt, hc⟩ := h.2.2.1 hl
    exact ⟨b, off, e, Nat.lt_of_lt_of_le hlt hb.size, fun i x hx j v hv => (hb.cell (p := ⟨b, off + (i * 5 + j), none⟩) hlt).trans (hc i x hx j v hv)⟩, fun x hx => (h.2.2.2 x hx).below hb⟩

theorem list_of {α : Type} (Q : Nat → α → Prop) (n : Nat) (h : ∀ i, i < n → ∃ x, Q i x) : ∃ xs : List α, xs.length = n ∧ ∀ i x, xs[i]? = some x → Q i x := by
  induction n with
  | zero => exact ⟨[], rfl, fun i x h => by cases h⟩
  | succ n ih =>
    obtain ⟨xs, hl, hx⟩ := ih (fun i hi => h i (by omega))
    obtain ⟨y, hy⟩ := h n (by omega)
    refine ⟨xs ++ [y], by simp [hl], fun i x hi => ?_⟩
    rcases Nat.lt_or_ge i xs.length with h1 | h1
    · rw [List.getElem?_append_left h1] at hi
      exact hx i x hi
    · rw [List.getElem?_append_right h1] at hi
      obtain ⟨h2, rfl⟩ := List.getElem?_eq_some_iff.1 hi
      have : i = n := by simp at h2; omega
      subst this
      simpa [hl] using hy
section
open Go.ChangeShapes Go.WideShapes Go.Deep
variable {H : Type} {enc : TypeId × Value → H} {P : Program} {w : World} {base : Nat} {spare : Nat → Bool} {held : Bool}
theorem open_slice_fields {t e : TypeId} {fs : Array Field} {fuel : Nat} {cs : List Value} {x : DataW H × List MemPlace} (ht : P.underlying t = some (.slice e)) (he : P.underlying e = some (.struct fs))
    (hone : oneCellFields P fs = true) (hC : P.cellsOf e = fs.size) (h : DataW.trod enc P w base spare held fuel t cs = some x) :
    (cs = [.slice none 0 0]) ∨
    ∃ (a : Addr) (len cap : Nat), cs = [.slice (some a) len cap] ∧ len ≤ cap ∧ cap ≤ maxLen ∧
      ∀ i, i < len → ∃ n, ∀ (j : Nat) (f : Field), fs[j]? = some f → ∃ (v : Value) (y : DataW H × List MemPlace), w.cell? (a.add (i * fs.size + j)) = some v ∧ DataW.trod enc P w base spare held n f.type [v] = some y := by
  rcases open_slice ht h with h0 | ⟨a, len, cap, m, n, D, Pl, hcs, hb, hl, hm, hmm, hx, hi⟩
  · exact .inl h0.1
  · refine .inr ⟨a, len, cap, hcs, hl, hm, fun i him => ?_⟩
    obtain ⟨cs', hc, ht'⟩ := hi i (by rw [hmm]; split <;> omega)
    rw [hC] at hc
    obtain ⟨ys, n', hn', hy, hlen, hyl, hf⟩ := DataW.trod_struct he ht'
    obtain ⟨_, hcl, hat⟩ := World.cells?_some hc
    refine ⟨n', fun j f hj => ?_⟩
    obtain ⟨ho, hk⟩ := hone_of hone j f hj
    have hjl : j < fs.size := (Array.getElem?_eq_some_iff.1 hj).1
    have hcell := hat j hjl
    have hv : cs'[j]? = some (cs'[j]'(by omega)) := List.getElem?_eq_getElem (by omega)
    have h1 := hf j f hj
    rw [ho, hk] at h1
    have hone' : (cs'.drop j).take 1 = [cs'[j]'(by omega)] := by
      rw [List.drop_eq_getElem_cons (by omega)]
      rfl
    rw [hone'] at h1
    have hys : ys[j]? = some (ys[j]'(by omega)) := List.getElem?_eq_getElem (by omega)
    refine ⟨_, _, ?_, h1.trans hys⟩
    rw [← Go.Deep.add_add, hcell, hv]
/-- A slice of integers, as the walk is told of it, out of its reading. -/
theorem isRow_of {t e : TypeId} {k : IntKind} {fuel : Nat} {v : Value} {x : DataW H × List MemPlace} (ht : P.underlying t = some (.slice e)) (he : P.underlying e = some (.int k)) (hc : P.cellsOf e = 1)
    (h : DataW.trod enc P w base (fun _ => true) held fuel t [v] = some x) : ∃ A n c zs, v = .slice A n c ∧ n ≤ maxLen ∧ IsRow k w A n c zs := by
  rcases open_ints ht he hc h with ⟨hcs, _⟩ | ⟨a, l, c, zs, hcs, _, hl, hm, hz, _, hcell, hwz⟩
  · exact ⟨none, 0, 0, [], by simpa using hcs, by simp, .inl ⟨rfl, rfl, rfl, rfl⟩⟩
  · exact ⟨some a, l, c, zs, by simpa using hcs, by omega, .inr ⟨_, rfl, hl, hm, by simpa using hz, hcell, hwz⟩⟩
end
theorem IsRow.rowI {w : World} {a : Option Addr} {len cap : Nat} {zs : List Int} (h : IsRow .i64 w a len cap zs) (hl : len ≤ 134217728) : ∃ l : List Int, l.length = len ∧ RowI w a l ∧ (a = none → cap = 0) := by
  rcases h with ⟨rfl, rfl, rfl, rfl⟩ | ⟨x, rfl, hlc, _, hz, hcell, hwz⟩
  · exact ⟨[], rfl, rowI_nil _ _, fun _ => rfl⟩
  · have hlen : (zs.take len).length = len := by simp; omega
    refine ⟨zs.take len, hlen, ⟨by omega, fun hpos => ?_⟩, fun h => by cases h⟩
    rw [hlen] at hpos ⊢
    have h0 := hcell 0 (by omega)
    obtain ⟨b, off, spot⟩ := x
    have hspot : spot = none := by simpa [Addr.add] using World.cell?_spot h0
    subst hspot
    refine ⟨b, off, rfl, by simpa [Addr.add] using World.block_lt_of_cell? _ _ h0, fun k hk => ?_⟩
    have hc := hcell k (by omega)
    rw [add_plain] at hc
    rw [hc]
    have hk' : k < zs.length := by omega
    simp only [List.getD, List.getElem?_take_of_lt hk]
end Go.Proofs.Ytifodinikonkhaa
