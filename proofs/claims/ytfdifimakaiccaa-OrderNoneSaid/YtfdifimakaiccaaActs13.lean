/-
  Proved here: a list of acts of fuseelaw13 that came in, read as a list.
  Conditions: none.
-/
import Derived.Test.YtfdifimakaiccaaTabA
import Derived.Deep.Slices
import Derived.Deep.Fields
import Derived.ChangeSame
import Derived.OpenShut
namespace Go.Proofs.Ytfdifimakaiccaa
open Go Go.RowKit
set_option maxRecDepth 100000

/-- An act of the statements', as it came in. -/
structure ActP where
  kd : Int
  l : Ln
  b : Int
  past : Bool
def ActP.cells (x : ActP) : List Value := [.int .i64 x.kd, .string x.l.str, .int .u64 (x.l.id : Nat), .int .u64 (x.l.ver : Nat), .int .i64 x.l.line, .int .i64 x.l.cl, .int .i64 x.b, .bool x.past]
def IsActs (w : World) (a : Option Addr) (len : Nat) (xs : List ActP) : Prop :=
  (xs.length = len ∧ ∀ x ∈ xs, x.l.k.length ≤ maxLen) ∧ len ≤ maxLen ∧ (0 < len → ∃ b off, a = some ⟨b, off, none⟩ ∧ b < w.heap.size ∧ ∀ i x, xs[i]? = some x → ∀ j v, x.cells[j]? = some v → w.cell? ⟨b, off + (i * 8 + j), none⟩ = some v)
theorem IsActs.below {w w' : World} {a : Option Addr} {len : Nat} {xs : List ActP} (h : IsActs w a len xs) (hb : Below w.heap.size w w') : IsActs w' a len xs :=
  ⟨h.1, h.2.1, fun hl => by
    obtain ⟨b, off, e, hlt, hc⟩ := h.2.2 hl
    exact ⟨b, off, e, Nat.lt_of_lt_of_le hlt hb.size, fun i x hx j v hv => (hb.cell (p := ⟨b, off + (i * 8 + j), none⟩) hlt).trans (hc i x hx j v hv)⟩⟩
theorem IsActs.at_ {w : World} {a : Option Addr} {len : Nat} {xs : List ActP} (h : IsActs w a len xs) {i : Nat} (hi : i < len) : ∃ x b off, xs[i]? = some x ∧ x.l.k.length ≤ maxLen ∧ a = some ⟨b, off, none⟩ ∧ b < w.heap.size ∧ w.cell? ⟨b, off + i * 8, none⟩ = some (.int .i64 x.kd) ∧ w.cell? ⟨b, off + i * 8 + 1, none⟩ = some (.string x.l.str) ∧
    w.cell? ⟨b, off + i * 8 + 2, none⟩ = some (.int .u64 (x.l.id : Nat)) ∧ w.cell? ⟨b, off + i * 8 + 3, none⟩ = some (.int .u64 (x.l.ver : Nat)) ∧ w.cell? ⟨b, off + i * 8 + 4, none⟩ = some (.int .i64 x.l.line) ∧ w.cell? ⟨b, off + i * 8 + 5, none⟩ = some (.int .i64 x.l.cl) ∧ w.cell? ⟨b, off + i * 8 + 6, none⟩ = some (.int .i64 x.b) ∧ w.cell? ⟨b, off + i * 8 + 7, none⟩ = some (.bool x.past) := by
  obtain ⟨b, off, e, hb, hc⟩ := h.2.2 (by omega)
  have hi' : i < xs.length := by rw [h.1.1]; exact hi
  have hx := hc i _ (List.getElem?_eq_getElem hi')
  exact ⟨xs[i], b, off, List.getElem?_eq_getElem hi', h.1.2 _ (List.getElem_mem hi'), e, hb, hx 0 _ rfl, by rw [Nat.add_assoc]; exact hx 1 _ rfl, by rw [Nat.add_assoc]; exact hx 2 _ rfl, by rw [Nat.add_assoc]; exact hx 3 _ rfl, by rw [Nat.add_assoc]; exact hx 4 _ rfl, by rw [Nat.add_assoc]; exact hx 5 _ rfl, by rw [Nat.add_assoc]; exact hx 6 _ rfl, by rw [Nat.add_assoc]; exact hx 7 _ rfl⟩
theorem u64_nat12 (x : Int) (h : (Lit.int .u64 x).wf = true) : ∃ n : Nat, x = n ∧ n < 18446744073709551616 := by
  have h1 : 0 ≤ x ∧ x < 18446744073709551616 := by
    simp [Lit.wf, IntKind.min, IntKind.max, IntKind.signed, IntKind.bits] at h
    omega
  obtain ⟨n, rfl⟩ := Int.eq_ofNat_of_zero_le h1.1
  exact ⟨n, rfl, by omega⟩
section
open Go.ChangeShapes Go.WideShapes Go.Deep
variable {H : Type} {enc : TypeId × Value → H} {w : World} {base : Nat} {spare : Nat → Bool} {held : Bool}
set_option maxRecDepth 100000 in
theorem link_cells {fuel : Nat} {cs : List Value} {x : DataW H × List MemPlace} (h : DataW.trod enc Try.prog w base spare held fuel 33 cs = some x) : ∃ e : Ln, cs = e.cells ∧ e.k.length ≤ maxLen := by
  obtain ⟨xs, n, _, _, hsz, hxl, hg⟩ := DataW.trod_struct Try.underlying33 h
  have hsz5 : cs.length = 5 := hsz.trans (by kernel_rfl)
  have hx5 : xs.length = 5 := hxl
  have one : ∀ (j : Nat) (f : Field), j < 5 → f.offset = j → Try.prog.cellsOf f.type = 1 → DataW.trod enc Try.prog w base spare held n f.type ((cs.drop f.offset).take (Try.prog.cellsOf f.type)) = xs[j]? → ∃ y z, cs[j]? = some y ∧ DataW.trod enc Try.prog w base spare held n f.type [y] = some z := by
    intro j f hj ho hc ht
    rw [ho, hc, List.drop_eq_getElem_cons (by omega), List.take_succ_cons, List.take_zero, List.getElem?_eq_getElem (by omega)] at ht
    exact ⟨_, _, List.getElem?_eq_getElem (by omega), ht⟩
  obtain ⟨y0, z0, e0, t0⟩ := one 0 _ (by omega) (by rfl) (by kernel_rfl) (hg 0 _ rfl)
  obtain ⟨y1, z1, e1, t1⟩ := one 1 _ (by omega) (by rfl) (by kernel_rfl) (hg 1 _ rfl)
  obtain ⟨y2, z2, e2, t2⟩ := one 2 _ (by omega) (by rfl) (by kernel_rfl) (hg 2 _ rfl)
  obtain ⟨y3, z3, e3, t3⟩ := one 3 _ (by omega) (by rfl) (by kernel_rfl) (hg 3 _ rfl)
  obtain ⟨y4, z4, e4, t4⟩ := one 4 _ (by omega) (by rfl) (by kernel_rfl) (hg 4 _ rfl)
  obtain ⟨a0, q0, _, g0⟩ := DataW.trod_string Try.underlying9 t0
  obtain ⟨a1, q1, _, g1⟩ := DataW.trod_int Try.underlying31 t1
  obtain ⟨a2, q2, _, g2⟩ := DataW.trod_int Try.underlying31 t2
  obtain ⟨a3, q3, _, _⟩ := DataW.trod_int Try.underlying3 t3
  obtain ⟨a4, q4, _, _⟩ := DataW.trod_int Try.underlying3 t4
  simp only [List.cons.injEq, and_true] at q0 q1 q2 q3 q4
  subst q0 q1 q2 q3 q4
  obtain ⟨m1, rfl, u1⟩ := u64_nat12 _ g1
  obtain ⟨m2, rfl, u2⟩ := u64_nat12 _ g2
  refine ⟨⟨a0.data.toList, m1, m2, a3, a4⟩, ?_, by rw [Array.length_toList]; exact g0⟩
  apply List.ext_getElem?
  intro j
  rcases j with _ | _ | _ | _ | _ | j
  · exact e0
  · exact e1
  · exact e2
  · exact e3
  · exact e4
  · rw [List.getElem?_eq_none (by omega)]; simp [Ln.cells]
set_option maxRecDepth 100000 in
theorem act_cells {fuel : Nat} {cs : List Value} {x : DataW H × List MemPlace} (h : DataW.trod enc Try.prog w base spare held fuel 35 cs = some x) : ∃ a : ActP, cs = a.cells ∧ a.l.k.length ≤ maxLen := by
  obtain ⟨xs, n, _, _, hsz, hxl, hg⟩ := DataW.trod_struct Try.underlying35 h
  have hsz8 : cs.length = 8 := hsz.trans (by kernel_rfl)
  have hx4 : xs.length = 4 := hxl
  match cs, hsz8 with
  | [c0, c1, c2, c3, c4, c5, c6, c7], _ =>
    have k1 : Try.prog.cellsOf 3 = 1 := by kernel_rfl
    have k5 : Try.prog.cellsOf 33 = 5 := by kernel_rfl
    have k2 : Try.prog.cellsOf 4 = 1 := by kernel_rfl
    have g0 : DataW.trod enc Try.prog w base spare held n 3 (([c0, c1, c2, c3, c4, c5, c6, c7].drop 0).take (Try.prog.cellsOf 3)) = xs[0]? := hg 0 _ rfl
    have g1 : DataW.trod enc Try.prog w base spare held n 33 (([c0, c1, c2, c3, c4, c5, c6, c7].drop 1).take (Try.prog.cellsOf 33)) = xs[1]? := hg 1 _ rfl
    have g2 : DataW.trod enc Try.prog w base spare held n 3 (([c0, c1, c2, c3, c4, c5, c6, c7].drop 6).take (Try.prog.cellsOf 3)) = xs[2]? := hg 2 _ rfl
    have g3 : DataW.trod enc Try.prog w base spare held n 4 (([c0, c1, c2, c3, c4, c5, c6, c7].drop 7).take (Try.prog.cellsOf 4)) = xs[3]? := hg 3 _ rfl
    rw [List.getElem?_eq_getElem (by omega)] at g0 g1 g2 g3
    rw [k1] at g0 g2
    rw [k5] at g1
    rw [k2] at g3
    replace g0 : DataW.trod enc Try.prog w base spare held n 3 [c0] = some _ := g0
    replace g1 : DataW.trod enc Try.prog w base spare held n 33 [c1, c2, c3, c4, c5] = some _ := g1
    replace g2 : DataW.trod enc Try.prog w base spare held n 3 [c6] = some _ := g2
    replace g3 : DataW.trod enc Try.prog w base spare held n 4 [c7] = some _ := g3
    obtain ⟨a0, q0, _, _⟩ := DataW.trod_int Try.underlying3 g0
    obtain ⟨e, q1, he⟩ := link_cells g1
    obtain ⟨a2, q2, _, _⟩ := DataW.trod_int Try.underlying3 g2
    obtain ⟨a3, q3, _⟩ := DataW.trod_bool Try.underlying4 g3
    refine ⟨⟨a0, e, a2, a3⟩, ?_, he⟩
    simp only [List.cons.injEq, and_true] at q0 q2 q3
    simp only [Ln.cells, List.cons.injEq, and_true] at q1
    obtain ⟨r0, r1, r2, r3, r4⟩ := q1
    simp only [ActP.cells, q0, q2, q3, r0, r1, r2, r3, r4]
theorem list_of {α : Type} (Q : Nat → α → Prop) (n : Nat) (h : ∀ i, i < n → ∃ x, Q i x) : ∃ xs : List α, xs.length = n ∧ ∀ i x, xs[i]? = some x → Q i x := by
  induction n with
  | zero => exact ⟨[], rfl, fun i x h => by cases h⟩
  | succ n ih =>
    obtain ⟨xs, hl, hx⟩ := ih (fun i hi => h i (by omega))
    obtain ⟨y, hy⟩ := h n (by omega)
    refine ⟨xs ++ [y], by simp [hl], fun i x hi => ?_⟩
    rcases Nat.lt_or_ge i xs.length with h1 | h1
    · rw [List.getElem?_append_left h1] at hi
      exact hx i x hi
    · rw [List.getElem?_append_right h1] at hi
      obtain ⟨h2, rfl⟩ := List.getElem?_eq_some_iff.1 hi
      have : i = n := by simp at h2; omega
      subst this
      simpa [hl] using hy
theorem isActs_of {fuel : Nat} {a : Option Addr} {len cap : Nat} {x : DataW H × List MemPlace}
    (h : DataW.trod enc Try.prog w base (fun _ => true) held fuel 22 [.slice a len cap] = some x) : ∃ xs, IsActs w a len xs := by
  rcases open_slice Try.underlying22 h with h0 | ⟨ad, l, c, m, n, D, Pl, hcs, hb, hl, hm, hmm, hx, hf⟩
  · have h1 := h0.1
    simp only [List.cons.injEq, Value.slice.injEq, and_true] at h1
    obtain ⟨rfl, rfl, rfl⟩ := h1
    exact ⟨[], ⟨rfl, by simp⟩, by simp, fun h => by omega⟩
  · simp only [List.cons.injEq, Value.slice.injEq, and_true] at hcs
    obtain ⟨rfl, rfl, rfl⟩ := hcs
    have k8 : Try.prog.cellsOf 35 = 8 := by kernel_rfl
    have hall : ∀ i, i < len → ∃ x : ActP, x.l.k.length ≤ maxLen ∧ ∀ j v, x.cells[j]? = some v → w.cell? (ad.add (i * 8 + j)) = some v := by
      intro i hi
      obtain ⟨cs', hc, ht'⟩ := hf i (by rw [hmm]; split <;> omega)
      rw [k8] at hc
      obtain ⟨_, hcl, hat⟩ := World.cells?_some hc
      obtain ⟨y, rfl, hy⟩ := act_cells ht'
      refine ⟨y, hy, fun j v hv => ?_⟩
      have hj : j < 8 := by rw [← hcl]; exact (List.getElem?_eq_some_iff.1 hv).1
      rw [← Go.Deep.add_add, hat j hj, hv]
    obtain ⟨xs, hxl, hx⟩ := list_of _ len hall
    refine ⟨xs, ⟨hxl, fun x hxm => by obtain ⟨i, hi, e⟩ := List.getElem_of_mem hxm; exact (hx i x (by rw [List.getElem?_eq_getElem hi, e])).1⟩, by omega, fun hpos => ?_⟩
    obtain ⟨x0, _, h0⟩ := hall 0 hpos
    have h00 := h0 0 _ rfl
    obtain ⟨b, off, spot⟩ := ad
    have hspot : spot = none := by simpa [Addr.add] using World.cell?_spot h00
    subst hspot
    refine ⟨b, off, rfl, by simpa [Addr.add] using World.block_lt_of_cell? _ _ h00, fun i x hi j v hv => ?_⟩
    rw [← add_plain]
    exact (hx i x hi).2 j v hv
end


end Go.Proofs.Ytfdifimakaiccaa
