/-
    Proved here: the statements' own long and awake; a block that came in, read as one.
  Conditions: none.
-/
import Derived.Test.YtokobelmoanneaaBlockM
import Derived.Deep.RegionHeld3
import Derived.Deep.RegionLaw
import Derived.Deep.Slices
import Derived.Deep.Fields
import Derived.ChangeSame
namespace Go.Proofs.Ytokobelmoanneaa
open Go Go.RowKit

/-- At a step of a region that draws its order: an operation that is not wanted. -/
theorem step_skip {P : Program} {ops : Array Oper} {o : Oper} {a : Act} {K : Act → World → Prop} {Q : Exit → Act → World → Prop} {w : World} (hw : Region.wanted o (yielded ops a.tmps) = false) (h : K (a.put o.dst undef) w) : if Region.wanted o (yielded ops a.tmps) = true then Oper.wp P o a w K Q else K (a.put o.dst undef) w := by
  rw [if_neg (by rw [hw]; decide)]
  exact h
set_option maxHeartbeats 1600000 in
set_option maxRecDepth 100000 in
theorem awake_any (w : World) : Calls Try.prog 14 #[] w fun e w' => e = .returned (.bool true) ∧ Below w.heap.size w w' := by
  have HONE := Lib.hid one_any
  have HE := Lib.hid (fun W => enc_ok oneBV one_ok one_may W)
  have HLL := Lib.hid one_len
  have HD := Lib.hid (fun W g c (hc : 64 ≤ c) (h : Row W (some ⟨g, 0, none⟩) (linesL oneBV)) => dec_yes W g 0 64 c oneBV one_ok one_may one_len hc h)
  have H0 := Lib.hid one_0
  have H2 := Lib.hid one_2
  have HZ := Lib.hid zero_block
  have HAC := Lib.hid (all_cells oneBV)
  have HBX : Hid (∀ W g, W.heap[g]? = some (.cells oneBV.cells.toArray 24 (0, 0)) → Box W g ⟨0, 1, 1, 1, 1, ⟨#[97]⟩, ⟨#[98]⟩⟩) := fun _ _ h => h
  obtain ⟨p, hp⟩ : ∃ p, w.heap.size = p := ⟨_, rfl⟩
  have HP := Lib.hid hp
  clear hp
  rw [BV.agg] at HONE HE HD
  unfold LinesTo at HE
  rw [one_len] at HE
  generalize linesL oneBV = L at *
  simp only [oneBV] at HONE HE HD
  go_enter Try.func14, Try.ntmps14
  go_wp2_with (first
    | (go_at_call 33; refine (HONE.out _).mono ?_; rintro e w1 ⟨rfl, hb⟩; have HB1 : Hid (Below p w w1) := HP.out ▸ hb; clear hb)
    | (go_at_call 15; refine (HE.out _).mono ?_; rintro e w2 ⟨V, rfl, hown, hb⟩; have HB2 : Hid (Below p w w2) := HB1.out.trans (hb.mono (HP.out ▸ HB1.out.size)); obtain ⟨g, cap, rfl, hcap, hgp, hgl, hrow⟩ := own_form hown (by omega) (by omega); have HR := Lib.hid hrow; clear hb hown hrow)
    | (go_at_call 20; refine (HD.out _ g cap hcap HR.out).mono ?_; rintro e w3 ⟨rfl, hb⟩; have HB3 : Hid (Below p w w3) := HB2.out.trans (hb.mono (HP.out ▸ HB2.out.size)); have HR3 := Lib.hid (HR.out.below hb); obtain ⟨q, hq⟩ : ∃ q, w3.heap.size = q := ⟨_, rfl⟩; have HQ := Lib.hid hq; clear hb hq)
    | ((with_reducible show wpList _ _ _ (⟨some 3, .alloc _, _, _, _, _⟩ :: _) _ _); refine wpList_alloc_var (o := ⟨some 3, _, _, _, _, _⟩) rfl 24 rfl q HQ.out _ HZ.out ?_; intro w4 HA4 HB4)
    | ((with_reducible show wpList _ _ _ (⟨none, .store _ _ _, _, _, _, _⟩ :: _) _ _); refine wpList_store_whole (o := ⟨none, .store 24 (.tmp 3) (.tmp 13), _, _, _, _⟩) rfl _ _ _ rfl rfl q oneBV.cells.toArray rfl rfl 24 _ HA4.out size_block rfl HAC.out ?_; intro w5 HA5 HB5; have HR5 := Lib.hid (HR3.out.below (HQ.out.symm ▸ HB4.out.trans HB5.out)); have HBX5 := Lib.hid (HBX.out _ _ HA5.out); have HB5' : Hid (Below p w w5) := HB3.out.trans ((HB4.out.trans HB5.out).mono (HQ.out ▸ HP.out ▸ HB3.out.size))))
  obtain ⟨c0, c1, c2, c3, c4, c5, c6⟩ := HBX5.out.cells
  obtain ⟨k0, k2⟩ : w5.cell? ⟨g, 0, none⟩ = some (.int .u8 1) ∧ w5.cell? ⟨g, 2, none⟩ = some (.int .u8 1) := by
    obtain ⟨b', off', e, hlt, hcl⟩ := HR5.out.2 (by rw [HLL.out]; omega)
    simp only [Option.some.injEq, Addr.mk.injEq, and_true] at e
    obtain ⟨rfl, rfl⟩ := e
    have h0 := hcl 0 (by rw [HLL.out]; omega)
    have h2 := hcl 2 (by rw [HLL.out]; omega)
    rw [H0.out] at h0
    rw [H2.out] at h2
    exact ⟨h0, h2⟩
  have hgw : g < w5.heap.size := by obtain ⟨b', off', e, hlt, _⟩ := HR5.out.2 (by rw [HLL.out]; omega); simp only [Option.some.injEq, Addr.mk.injEq, and_true] at e; omega
  have HK0 := Lib.hid k0
  have HK2 := Lib.hid k2
  go_region_held3 (fun w' => w'.cell? ⟨g, 0, none⟩ = some (.int .u8 1) ∧ w'.cell? ⟨g, 2, none⟩ = some (.int .u8 1) ∧ w'.cell? ⟨q, 0, none⟩ = some (.int .i64 0) ∧ w'.cell? ⟨q, 1, none⟩ = some (.int .i64 1) ∧ w'.cell? ⟨q, 2, none⟩ = some (.int .u64 1) ∧ w'.cell? ⟨q, 3, none⟩ = some (.int .u64 1) ∧ w'.cell? ⟨q, 4, none⟩ = some (.int .u64 1) ∧ w'.cell? ⟨q, 5, none⟩ = some (.string ⟨#[97]⟩) ∧ w'.cell? ⟨q, 6, none⟩ = some (.string ⟨#[98]⟩)) (go_keep)
    (first
      | (go_at_call 33; refine (HONE.out _).mono ?_; rintro e w9 ⟨rfl, hb⟩; have HB9 : Hid (Below p w w9) := HB5'.out.drew.trans (hb.mono (HP.out ▸ HB5'.out.size)); obtain ⟨d0, d1, d2, d3, d4, d5, d6⟩ := (Box.below (w := w5.drew) HBX5.out hb HBX5.out.lt).cells; have m0 := (hb.cell (p := ⟨g, 0, none⟩) hgw).trans HK0.out; have m2 := (hb.cell (p := ⟨g, 2, none⟩) hgw).trans HK2.out; clear hb))
  go_wp2
  go_ret
  exact ⟨rfl, by rw [HP.out]; exact HB9.out⟩
def longB (b : BV) : Bool := decide (2000 < b.key.size) || decide (2000 < b.val.size)
theorem longB_no {b : BV} (h : longB b = false) : b.key.size ≤ 2000 ∧ b.val.size ≤ 2000 := by
  simp only [longB, Bool.or_eq_false_iff, decide_eq_false_iff_not] at h
  omega
set_option maxHeartbeats 400000 in
theorem long_any (b : BV) (w : World) : Calls Try.prog 11 #[b.agg] w fun e w' => e = .returned (.bool (longB b)) ∧ Below w.heap.size w w' := by
  have HL : Hid (longB b = (decide (2000 < b.key.size) || decide (2000 < b.val.size))) := rfl
  rw [BV.agg]
  generalize longB b = r at *
  obtain ⟨cl, kd, id, ver, ep, key, val⟩ := b
  simp only at *
  rcases Classical.em (2000 < key.size) with h1 | h1 <;> rcases Classical.em (2000 < val.size) with h2 | h2
  all_goals
    have HR := HL.out
    simp only [h1, h2, decide_true, decide_false, Bool.or_true, Bool.or_false] at HR
    have HRR := Lib.hid HR
    clear HL HR
    go_enter Try.func11, Try.ntmps11
    go_wp2
    go_ret
    exact ⟨bool_eq (by have e := HRR.out; subst e; first | rfl | (simp; omega)), (Below.refl _ _).alloc (Nat.le_refl _) _⟩
section
open Go.ChangeShapes Go.WideShapes Go.Deep
/-- A block that came in, as the walk is told of it. -/
theorem isBlock_of {H : Type} {enc : TypeId × Value → H} {w : World} {base b0 : Nat} {spare : Nat → Bool} {held : Bool} {r : Reach} {v : Value} {d : DataW H} {p : List MemPlace}
    (hv : Value.okWide Try.prog w r b0 24 v) (h : DataW.Trod enc Try.prog w base spare held 24 v d p) : ∃ b : BV, v = b.agg ∧ b.ok := by
  obtain ⟨cs, rfl, hsz⟩ := okWide_struct Try.underlying24 hv
  obtain ⟨fuel, hf⟩ := h
  obtain ⟨xs, n, _, _, _, hxl, hg⟩ := DataW.trod_struct Try.underlying24 hf
  have hsz7 : cs.toList.length = 7 := by rw [Array.length_toList]; exact hsz.trans (by kernel_rfl)
  have hx7 : xs.length = 7 := hxl
  have one : ∀ (j : Nat) (f : Field), j < 7 → f.offset = j → Try.prog.cellsOf f.type = 1 → DataW.trod enc Try.prog w base spare held n f.type ((cs.toList.drop f.offset).take (Try.prog.cellsOf f.type)) = xs[j]? → ∃ y z, cs.toList[j]? = some y ∧ DataW.trod enc Try.prog w base spare held n f.type [y] = some z := by
    intro j f hj ho hc ht
    rw [ho, hc, List.drop_eq_getElem_cons (by omega), List.take_succ_cons, List.take_zero, List.getElem?_eq_getElem (by omega)] at ht
    exact ⟨_, _, List.getElem?_eq_getElem (by omega), ht⟩
  obtain ⟨y0, z0, e0, t0⟩ := one 0 _ (by omega) (by rfl) (by kernel_rfl) (hg 0 _ rfl)
  obtain ⟨y1, z1, e1, t1⟩ := one 1 _ (by omega) (by rfl) (by kernel_rfl) (hg 1 _ rfl)
  obtain ⟨y2, z2, e2, t2⟩ := one 2 _ (by omega) (by rfl) (by kernel_rfl) (hg 2 _ rfl)
  obtain ⟨y3, z3, e3, t3⟩ := one 3 _ (by omega) (by rfl) (by kernel_rfl) (hg 3 _ rfl)
  obtain ⟨y4, z4, e4, t4⟩ := one 4 _ (by omega) (by rfl) (by kernel_rfl) (hg 4 _ rfl)
  obtain ⟨y5, z5, e5, t5⟩ := one 5 _ (by omega) (by rfl) (by kernel_rfl) (hg 5 _ rfl)
  obtain ⟨y6, z6, e6, t6⟩ := one 6 _ (by omega) (by rfl) (by kernel_rfl) (hg 6 _ rfl)
  obtain ⟨a0, q0, _, _⟩ := DataW.trod_int Try.underlying3 t0
  obtain ⟨a1, q1, _, _⟩ := DataW.trod_int Try.underlying3 t1
  obtain ⟨a2, q2, _, g2⟩ := DataW.trod_int Try.underlying22 t2
  obtain ⟨a3, q3, _, g3⟩ := DataW.trod_int Try.underlying22 t3
  obtain ⟨a4, q4, _, g4⟩ := DataW.trod_int Try.underlying22 t4
  obtain ⟨a5, q5, _, _⟩ := DataW.trod_string Try.underlying9 t5
  obtain ⟨a6, q6, _, _⟩ := DataW.trod_string Try.underlying9 t6
  simp only [List.cons.injEq, and_true] at q0 q1 q2 q3 q4 q5 q6
  subst q0 q1 q2 q3 q4 q5 q6
  have u2 := bounds_u64 g2
  have u3 := bounds_u64 g3
  have u4 := bounds_u64 g4
  refine ⟨⟨a0, a1, a2.toNat, a3.toNat, a4.toNat, a5, a6⟩, ?_, ⟨by show a2.toNat < _; omega, by show a3.toNat < _; omega, by show a4.toNat < _; omega⟩⟩
  rw [BV.agg]
  congr 1
  apply Array.ext'
  apply List.ext_getElem?
  intro j
  rcases j with _ | _ | _ | _ | _ | _ | _ | j
  · exact e0
  · exact e1
  · rw [e2]; simp; omega
  · rw [e3]; simp; omega
  · rw [e4]; simp; omega
  · exact e5
  · exact e6
  · rw [List.getElem?_eq_none (by omega)]; simp
end

end Go.Proofs.Ytokobelmoanneaa
