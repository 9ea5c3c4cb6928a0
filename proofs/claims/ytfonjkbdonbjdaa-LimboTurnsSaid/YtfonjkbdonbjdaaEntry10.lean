/-
  Proved here: an entry that came in, read as one.
  Conditions: none.
-/
import Derived.Test.YtfonjkbdonbjdaaAwake10
import Derived.Deep.Slices
import Derived.Deep.Fields
import Derived.ChangeSame
namespace Go.Proofs.Ytfonjkbdonbjdaa
open Go Go.RowKit

theorem u64_nat (x : Int) (h : (Lit.int .u64 x).wf = true) : ∃ n : Nat, x = n ∧ n < 18446744073709551616 := by
  have h1 : 0 ≤ x ∧ x < 18446744073709551616 := by
    simp [Lit.wf, IntKind.min, IntKind.max, IntKind.signed, IntKind.bits] at h
    omega
  obtain ⟨n, rfl⟩ := Int.eq_ofNat_of_zero_le h1.1
  exact ⟨n, rfl, by omega⟩
section
open Go.ChangeShapes Go.WideShapes Go.Deep
set_option maxRecDepth 100000 in
/-- An entry that came in, as the walk is told of it. -/
theorem isEntry_of {H : Type} {enc : TypeId × Value → H} {w : World} {base b0 : Nat} {spare : Nat → Bool} {held : Bool} {r : Reach} {v : Value} {d : DataW H} {p : List MemPlace}
    (hv : Value.okWide Try.prog w r b0 40 v) (h : DataW.Trod enc Try.prog w base spare held 40 v d p) : ∃ e : En, v = e.val ∧ e.r < 18446744073709551616 ∧ e.d < 18446744073709551616 := by
  obtain ⟨cs, rfl, hsz⟩ := okWide_struct Try.underlying40 hv
  obtain ⟨fuel, hf⟩ := h
  obtain ⟨xs, n, _, _, _, hxl, hg⟩ := DataW.trod_struct Try.underlying40 hf
  have hsz5 : cs.toList.length = 5 := by rw [Array.length_toList]; exact hsz.trans (by kernel_rfl)
  have hx5 : xs.length = 5 := hxl
  have one : ∀ (j : Nat) (f : Field), j < 5 → f.offset = j → Try.prog.cellsOf f.type = 1 → DataW.trod enc Try.prog w base spare held n f.type ((cs.toList.drop f.offset).take (Try.prog.cellsOf f.type)) = xs[j]? → ∃ y z, cs.toList[j]? = some y ∧ DataW.trod enc Try.prog w base spare held n f.type [y] = some z := by
    intro j f hj ho hc ht
    rw [ho, hc, List.drop_eq_getElem_cons (by omega), List.take_succ_cons, List.take_zero, List.getElem?_eq_getElem (by omega)] at ht
    exact ⟨_, _, List.getElem?_eq_getElem (by omega), ht⟩
  obtain ⟨y0, z0, e0, t0⟩ := one 0 _ (by omega) (by rfl) (by kernel_rfl) (hg 0 _ rfl)
  obtain ⟨y1, z1, e1, t1⟩ := one 1 _ (by omega) (by rfl) (by kernel_rfl) (hg 1 _ rfl)
  obtain ⟨y2, z2, e2, t2⟩ := one 2 _ (by omega) (by rfl) (by kernel_rfl) (hg 2 _ rfl)
  obtain ⟨y3, z3, e3, t3⟩ := one 3 _ (by omega) (by rfl) (by kernel_rfl) (hg 3 _ rfl)
  obtain ⟨y4, z4, e4, t4⟩ := one 4 _ (by omega) (by rfl) (by kernel_rfl) (hg 4 _ rfl)
  obtain ⟨a0, q0, _, _⟩ := DataW.trod_int Try.underlying3 t0
  obtain ⟨a1, q1, _, _⟩ := DataW.trod_int Try.underlying3 t1
  obtain ⟨a2, q2, _, g2⟩ := DataW.trod_int Try.underlying38 t2
  obtain ⟨a3, q3, _, g3⟩ := DataW.trod_int Try.underlying38 t3
  obtain ⟨a4, q4, _, _⟩ := DataW.trod_int Try.underlying3 t4
  simp only [List.cons.injEq, and_true] at q0 q1 q2 q3 q4
  subst q0 q1 q2 q3 q4
  obtain ⟨m2, rfl, u2⟩ := u64_nat _ g2
  obtain ⟨m3, rfl, u3⟩ := u64_nat _ g3
  refine ⟨⟨a0, a1, m2, m3, a4⟩, ?_, u2, u3⟩
  rw [En.val]
  congr 1
  apply Array.ext'
  apply List.ext_getElem?
  intro j
  rcases j with _ | _ | _ | _ | _ | j
  · exact e0
  · exact e1
  · exact e2
  · exact e3
  · exact e4
  · rw [List.getElem?_eq_none (by omega)]; simp
end

end Go.Proofs.Ytfonjkbdonbjdaa
