/-
  Proved here: what package palloc's isEmpty, isClass, New and find answer and leave.
  Conditions: none.
-/
import Derived.Test.YtjebpggoajfjkaaPoolMem
import Derived.Test.YtjebpggoajfjkaaArrs
import Derived.Test.YtjebpggoajfjkaaClassC
import Derived.Deep.QuietTactic
import Derived.BigQuiet
import Derived.IntWalk
import Derived.WalkSmall
import Derived.ChangeKeysEq
import Derived.StillTailTactics
import Derived.Lib.SliceRun
namespace Go.Proofs.Ytjebpggoajfjkaa
open Go Go.RowKit

abbrev PlP (w : World) (p q n : Nat) (L : List Tk) : Prop := Pl 70 61 w p q n L
theorem part_bool (xs : Array Value) (i : Nat) (v : Value) (h : xs[i]? = some v) (w : World) : (part 4 xs i).run Try.prog w = .ok v w := by
  have hagg : (isAgg 4).run Try.prog w = .ok false w := by
    unfold isAgg
    rw [Sem.run_bind, run_underlying Try.underlying4 w]
    rfl
  simp [part, Sem.run_bind, hagg, h]
theorem cells_bool : Try.prog.cellsOf 4 = 1 := by kernel_rfl
theorem bool_info : (Try.prog.info? 4).map (fun i => (i.zero, i.size)) = some (some (.bool false), 1) := by kernel_rfl
theorem items_encB (d : Nat) (a b : List Bool) (n : Nat) (ha : a.length = n) (hb : b.length = n) (w : World) : ∀ is : List Nat, (∀ i ∈ is, i < n) →
    (Op.eqItems (d + 1) 4 1 (encB a).toArray (encB b).toArray is).run Try.prog w = .ok (is.all fun i => a.getD i false == b.getD i false) w
  | [], _ => by simp [Op.eqItems]
  | i :: is, h => by
    have hi : i < n := h i (by simp)
    have h1 := part_bool (encB a).toArray (i * 1) _ (by rw [Nat.mul_one, List.getElem?_toArray]; exact encB_at a i (by omega)) w
    have h2 := part_bool (encB b).toArray (i * 1) _ (by rw [Nat.mul_one, List.getElem?_toArray]; exact encB_at b i (by omega)) w
    have h3 := run_equalIn_bool' (P := Try.prog) w d 4 (a.getD i false) (b.getD i false) Try.underlying4
    have ih := items_encB d a b n ha hb w is (fun j hj => h j (by simp [hj]))
    simp only [Op.eqItems, Sem.run_bind, h1, h2, h3, Result.andThen_ok]
    cases hh : (a.getD i false == b.getD i false)
    · simp only [Bool.not_false, if_true, Sem.run_pure, List.all_cons, hh, Bool.false_and]
    · simp only [Bool.not_true, Bool.false_eq_true, if_false, List.all_cons, hh, Bool.true_and]
      exact ih
theorem all_sameB (a b : List Bool) (h : a.length = b.length) : ((List.range a.length).all fun i => a.getD i false == b.getD i false) = (a == b) := by
  rw [Bool.eq_iff_iff, List.all_eq_true, beq_iff_eq]
  constructor
  · intro hh
    apply List.ext_getElem h
    intro i h1 h2
    have := hh i (by simpa using h1)
    simpa [List.getD, List.getElem?_eq_getElem h1, List.getElem?_eq_getElem h2] using this
  · rintro rfl i _
    simp
theorem equal_eight (a b : List Bool) (ha : a.length = 8) (hb : b.length = 8) (w : World) : (Op.equalIn 10000 68 (.agg (encB a).toArray) (.agg (encB b).toArray)).run Try.prog w = .ok (a == b) w := by
  obtain ⟨i, hi, _⟩ := Option.map_eq_some_iff.1 bool_info
  rw [run_equalIn_array (P := Try.prog) w 9999 (t := 68) (e := 4) (n := 8) _ _ Try.underlying68 hi, cells_bool, items_encB 9998 a b 8 ha hb w (List.range 8) (fun i h => by simpa using h)]
  have := all_sameB a b (by omega)
  rw [ha] at this
  rw [this]
theorem size_eight : (Try.prog.info? 68).map (·.size) = some 8 := by kernel_rfl
theorem guard_eight : Try.prog.eqGuardType Try.prog.depth 68 = false := by kernel_rfl
set_option maxHeartbeats 400000 in
theorem isempty_any {w : World} {p q n : Nat} {L : List Tk} (h : PlP w p q n L) {k : Nat} (hk : k < n) : Calls Try.prog 42 #[.pointer (some ⟨q, k * 9, none⟩)] w fun e w' => e = .returned (.bool (clsAt L k == -1)) ∧ w = w' := by
  obtain ⟨l, hl, hr, he⟩ := h.row hk
  rw [← he]
  have HR := Lib.hid hr
  have HL := Lib.hid hl
  obtain ⟨z, hz⟩ : ∃ z, (l == List.replicate 8 false) = z := ⟨_, rfl⟩
  have heq : ∀ w', (Op.equalIn 10000 68 (.agg (encB l).toArray) (.agg #[.bool false, .bool false, .bool false, .bool false, .bool false, .bool false, .bool false, .bool false])).run Try.prog w' = .ok z w' := fun w' => hz ▸ equal_eight l (List.replicate 8 false) hl rfl w'
  rw [hz]
  have hgu := guard_eight
  clear h hr hl he hz
  go_enter Try.func42, Try.ntmps42
  go_wp2_with (first
    | ((with_reducible show wpList _ _ _ (⟨some 6, _, _, _, _, _⟩ :: _) _ _); refine wpList_load_agg (o := ⟨some 6, _, _, _, _, _⟩) rfl 68 (.tmp 5) rfl q (k * 9) rfl (encB l) _ HR.out Try.underlying68 rfl (by rw [encB_len, HL.out]; exact size_eight) ?_))
  go_ret
  exact ⟨rfl, rfl⟩
set_option maxHeartbeats 400000 in
theorem isclass_any (c : Int) (w : World) : Calls Try.prog 36 #[.int .i64 c] w fun e w' => e = .returned (.bool (decide (0 < spanN c))) ∧ w = w' := by
  have HS := Lib.hid (span_any c w)
  generalize spanN c = s at *
  go_enter Try.func36, Try.ntmps36
  go_wp2_with fail
  refine HS.out.mono ?_
  rintro e w' ⟨rfl, rfl⟩
  go_wp2
  go_ret
  exact ⟨bool_eq (by simp), rfl⟩
theorem fresh_eights (n : Nat) : Eights (freshS n) := (fresh_of n).eight
def zeroSb : Sb := ⟨List.replicate 8 false, 0⟩
theorem made_slabs (z : Array Value) (hz : z.toList = zeroSb.cells) (n : Nat) : (madeCells z (n * 9)).toList = flatS (freshS n) := by
  have hl := Sb.cells_len (s := zeroSb) rfl
  have hs : z.size = 9 := by rw [← Array.length_toList, hz, hl]
  apply List.ext_getElem?
  intro m
  rcases Nat.lt_or_ge m (n * 9) with h | h
  · have h2 : m / 9 < n := by omega
    have hc : (freshS n)[m / 9]? = some zeroSb := by rw [freshS, List.getElem?_replicate, if_pos h2]; rfl
    have hf := flatS_at (fresh_eights n) hc (m % 9) (by omega)
    rw [show m / 9 * 9 + m % 9 = m by omega] at hf
    rw [hf, ← hz]
    have h3 : m % 9 < z.size := by omega
    simp only [madeCells, Array.getElem?_toList, Array.getElem?_map, Array.getElem?_range, h, if_true, Option.map_some, hs]
    rw [getElem!_pos z _ h3, Array.getElem?_eq_getElem h3]
  · rw [List.getElem?_eq_none (by simp [madeCells]; exact h), List.getElem?_eq_none (by rw [flatS_len (fresh_eights n), freshS, List.length_replicate]; exact h)]
theorem slab_info : (Try.prog.info? 70).map (fun i => (i.zero, i.size, decide (i.bytes ≤ 64))) = some (some (.agg zeroSb.cells.toArray), 9, true) := by kernel_rfl
/-- What New makes. -/
theorem new_made (w : World) (n : Nat) (hn : n ≤ 32) : ∃ w1, (Instr.makeSlice 59 (.int .i64 (n : Int)) (.int .i64 (n : Int))).run Try.prog w = .ok (.slice (some ⟨w.heap.size, 0, none⟩) n n) w1 ∧
    w1.heap[w.heap.size]? = some (.cells (flatS (freshS n)).toArray 70 (0, 0)) ∧ Below w.heap.size w w1 ∧ w1.heap.size = w.heap.size + 1 := by
  obtain ⟨i, hi, hz, hs, hy⟩ : ∃ i, Try.prog.info? 70 = some i ∧ i.zero = some (.agg zeroSb.cells.toArray) ∧ i.size = 9 ∧ i.bytes ≤ 64 := by
    obtain ⟨i, h1, h2⟩ := Option.map_eq_some_iff.1 slab_info
    simp only [Prod.mk.injEq, decide_eq_true_eq] at h2
    exact ⟨i, h1, h2.1, h2.2.1, h2.2.2⟩
  have hmk := run_make (P := Try.prog) w 59 70 i _ Try.underlying59 hi hz .i64 .i64 (n : Int) (n : Int) (by omega) (by omega) (by
    have h1 : (i.bytes : Int) * (n : Int) ≤ 64 * 32 := Int.mul_le_mul (by omega) (by omega) (by omega) (by omega)
    omega) (by omega)
  rw [Int.toNat_natCast, hs] at hmk
  refine ⟨_, hmk, ?_, (Below.refl _ _).alloc (Nat.le_refl _) _, by simp⟩
  have := made_slabs (Value.cells (.agg zeroSb.cells.toArray)) rfl n
  rw [← this]
  show (w.heap.push _)[w.heap.size]? = _
  simp
/-- What New leaves where it does not refuse. -/
def MadeP (w : World) (n : Nat) (e : Ending) (w' : World) : Prop :=
  ∃ p q, e = .returned (.tuple #[.pointer (some ⟨p, 0, none⟩), .int .i64 0]) ∧ w.heap.size ≤ p ∧ w.heap.size ≤ q ∧ PlP w' p q n [] ∧ Below w.heap.size w w'
set_option maxHeartbeats 400000 in
theorem new_bad (x : Int) (hx : x < 1 ∨ 32 < x) (w : World) : Calls Try.prog 12 #[.int .i64 x] w fun e w' => e = .returned (.tuple #[.pointer none, .int .i64 2]) ∧ w = w' := by
  have HS : Hid (Calls Try.prog 35 #[.int .i64 258] w fun e w' => e = .returned (.int .i64 32) ∧ w = w') := slabs_any 258 (by decide) w
  rcases Classical.em (x < 1) with h1 | h1
  · clear hx HS
    go_enter Try.func12, Try.ntmps12
    go_wp2
    go_ret2
    exact ⟨rfl, rfl⟩
  · have h2 : 32 < x := by omega
    clear hx
    go_enter Try.func12, Try.ntmps12
    go_wp2_with fail
    refine HS.out.mono ?_
    rintro e w' ⟨rfl, rfl⟩
    go_wp2
    go_ret2
    exact ⟨rfl, rfl⟩
set_option maxHeartbeats 400000 in
theorem new_ok (n : Nat) (h1 : 1 ≤ n) (h2 : n ≤ 32) (w : World) : Calls Try.prog 12 #[.int .i64 n] w (MadeP w n) := by
  have HS : Hid (Calls Try.prog 35 #[.int .i64 258] w fun e w' => e = .returned (.int .i64 32) ∧ w = w') := slabs_any 258 (by decide) w
  obtain ⟨w1, hmk, hq, hb, hs⟩ := new_made w n h2
  have HQ := Lib.hid hq
  have HB := Lib.hid hb
  obtain ⟨g, hg⟩ : ∃ g, w.heap.size = g := ⟨_, rfl⟩
  rw [hg] at hmk HQ HB hs
  have HG := Lib.hid hg
  have HSZ := Lib.hid hs
  clear hq hb hg hs
  have h3 : ¬ (n : Int) < 1 := by omega
  have h4 : ¬ 32 < (n : Int) := by omega
  go_enter Try.func12, Try.ntmps12
  go_wp2_with fail
  refine HS.out.mono ?_
  rintro e w' ⟨rfl, rfl⟩
  go_wp2
  go_ret2
  have hs1 := HSZ.out
  refine ⟨w1.heap.size, g, rfl, by have := HG.out; omega, Nat.le_of_eq HG.out, ⟨pool_nil n, h1, h2, freshS n, fresh_of n, ⟨by omega, ?_, ?_⟩⟩, ?_⟩
  · show (w1.heap.push _)[w1.heap.size]? = _
    simp [freshS]
  · rw [Below.heap_alloc _ _ _ (by omega)]
    exact HQ.out
  · rw [HG.out]
    exact HB.out.alloc (by omega) _
set_option maxHeartbeats 400000 in
theorem find_nil (x : Int) (w : World) : Calls Try.prog 41 #[.pointer none, .int .i64 x] w fun e w' => e = .returned (.tuple #[.pointer none, .int .i64 0]) ∧ w = w' := by
  go_enter Try.func41, Try.ntmps41
  go_wp2
  go_ret2
  exact ⟨rfl, rfl⟩
set_option maxHeartbeats 400000 in
theorem find_no {w : World} {p q n : Nat} {L : List Tk} (h : PlP w p q n L) (x : Int) (hx : slabOfN x < 0 ∨ (n : Int) ≤ slabOfN x) : Calls Try.prog 41 #[.pointer (some ⟨p, 0, none⟩), .int .i64 x] w fun e w' => e = .returned (.tuple #[.pointer none, .int .i64 0]) ∧ w = w' := by
  have HS := Lib.hid (slabof_any x w)
  have hsl := h.slice
  have hn := h.most
  generalize slabOfN x = k at *
  rcases Classical.em (k < 0) with h1 | h1
  · clear hx h hsl
    go_enter Try.func41, Try.ntmps41
    go_wp2_with fail
    refine HS.out.mono ?_
    rintro e w' ⟨rfl, rfl⟩
    go_wp2
    go_ret2
    exact ⟨rfl, rfl⟩
  · have h2 : (n : Int) ≤ k := by omega
    clear hx h
    go_enter Try.func41, Try.ntmps41
    go_wp2_with fail
    refine HS.out.mono ?_
    rintro e w' ⟨rfl, rfl⟩
    go_wp2
    go_ret2
    exact ⟨rfl, rfl⟩
set_option maxHeartbeats 400000 in
theorem find_yes {w : World} {p q n : Nat} {L : List Tk} (h : PlP w p q n L) (x : Int) (k j : Nat) (hk : k < n) (hj : j < 8) (hx : x = 2 + 8 * (k : Int) + j) : Calls Try.prog 41 #[.pointer (some ⟨p, 0, none⟩), .int .i64 x] w fun e w' => e = .returned (.tuple #[.pointer (some ⟨q, k * 9, none⟩), .int .i64 j]) ∧ ∃ m, w' = w.drewN m := by
  have hn := h.most
  have HS := Lib.hid (slabof_any x w)
  rw [hx, line_slab (by omega) hj, ← hx] at HS
  have HB := Lib.hid (fun w' => slab_any k w')
  have hsl := h.slice
  have hsb : slabN k = 2 + 8 * (k : Int) := by unfold slabN; rw [if_pos (by omega)]
  rw [hsb] at HB
  clear hsb h
  have h1 : ¬ (k : Int) < 0 := by omega
  have h2 : (k : Int) < (n : Int) := by omega
  have h3 : 2 + 8 * (k : Int) + (j : Int) - (2 + 8 * (k : Int)) = j := by omega
  subst hx
  go_enter Try.func41, Try.ntmps41
  go_wp2_with fail
  refine HS.out.mono ?_
  rintro e w' ⟨rfl, rfl⟩
  go_wp2
  go_quiet ((go_at_call 51; exact (HB.out _).mono fun _ _ hh => ⟨hh.1, _, hh.2.symm⟩))
  go_wp2
  go_ret2
  exact ⟨rfl, nq, rfl⟩

end Go.Proofs.Ytjebpggoajfjkaa
