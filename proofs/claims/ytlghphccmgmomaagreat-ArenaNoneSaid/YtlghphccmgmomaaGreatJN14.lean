/-
  Proved here, joined: PoolA, PoolB
  Conditions: as each part says.
-/
import Derived.Test.YtlghphccmgmomaaGreatJN13
import Derived.Test.YtlghphccmgmomaaGreatJN1
import Derived.Deep.QuietTactic
import Derived.BigQuiet
import Derived.IntWalk
import Derived.WalkSmall
import Derived.ChangeKeysEq
import Derived.StillTailTactics
import Derived.Lib.SliceRun

/-
  Proved here: what package palloc's isEmpty, isClass, New and find answer and leave.
  Conditions: none.
-/
namespace Go.Proofs.YtlghphccmgmomaaGreat
open Go Go.RowKit
set_option maxRecDepth 100000

abbrev PlP (w : World) (p q n : Nat) (L : List Tk) : Prop := Pl 155 177 w p q n L
theorem part_bool (xs : Array Value) (i : Nat) (v : Value) (h : xs[i]? = some v) (w : World) : (part 4 xs i).run Tryz.prog w = .ok v w := by
  have hagg : (isAgg 4).run Tryz.prog w = .ok false w := by
    unfold isAgg
    rw [Sem.run_bind, run_underlying Tryz.underlying4 w]
    rfl
  simp [part, Sem.run_bind, hagg, h]
theorem cells_bool : Tryz.prog.cellsOf 4 = 1 := by kernel_rfl
theorem bool_info : (Tryz.prog.info? 4).map (fun i => (i.zero, i.size)) = some (some (.bool false), 1) := by kernel_rfl
theorem items_encB (d : Nat) (a b : List Bool) (n : Nat) (ha : a.length = n) (hb : b.length = n) (w : World) : ∀ is : List Nat, (∀ i ∈ is, i < n) →
    (Op.eqItems (d + 1) 4 1 (encB7 a).toArray (encB7 b).toArray is).run Tryz.prog w = .ok (is.all fun i => a.getD i false == b.getD i false) w
  | [], _ => by simp [Op.eqItems]
  | i :: is, h => by
    have hi : i < n := h i (by simp)
    have h1 := part_bool (encB7 a).toArray (i * 1) _ (by rw [Nat.mul_one, List.getElem?_toArray]; exact encB_at a i (by omega)) w
    have h2 := part_bool (encB7 b).toArray (i * 1) _ (by rw [Nat.mul_one, List.getElem?_toArray]; exact encB_at b i (by omega)) w
    have h3 := run_equalIn_bool' (P := Tryz.prog) w d 4 (a.getD i false) (b.getD i false) Tryz.underlying4
    have ih := items_encB d a b n ha hb w is (fun j hj => h j (by simp [hj]))
    simp only [Op.eqItems, Sem.run_bind, h1, h2, h3, Result.andThen_ok]
    cases hh : (a.getD i false == b.getD i false)
    · simp only [Bool.not_false, if_true, Sem.run_pure, List.all_cons, hh, Bool.false_and]
    · simp only [Bool.not_true, Bool.false_eq_true, if_false, List.all_cons, hh, Bool.true_and]
      exact ih
theorem all_sameB (a b : List Bool) (h : a.length = b.length) : ((List.range a.length).all fun i => a.getD i false == b.getD i false) = (a == b) := by
  rw [Bool.eq_iff_iff, List.all_eq_true, beq_iff_eq]
  constructor
  · intro hh
    apply List.ext_getElem h
    intro i h1 h2
    have := hh i (by simpa using h1)
    simpa [List.getD, List.getElem?_eq_getElem h1, List.getElem?_eq_getElem h2] using this
  · rintro rfl i _
    simp
theorem equal_eight (a b : List Bool) (ha : a.length = 8) (hb : b.length = 8) (w : World) : (Op.equalIn 10000 153 (.agg (encB7 a).toArray) (.agg (encB7 b).toArray)).run Tryz.prog w = .ok (a == b) w := by
  obtain ⟨i, hi, _⟩ := Option.map_eq_some_iff.1 bool_info
  rw [run_equalIn_array (P := Tryz.prog) w 9999 (t := 153) (e := 4) (n := 8) _ _ Tryz.underlying153 hi, cells_bool, items_encB 9998 a b 8 ha hb w (List.range 8) (fun i h => by simpa using h)]
  have := all_sameB a b (by omega)
  rw [ha] at this
  rw [this]
theorem size_eight : (Tryz.prog.info? 153).map (·.size) = some 8 := by kernel_rfl
theorem guard_eight : Tryz.prog.eqGuardType Tryz.prog.depth 153 = false := by kernel_rfl
set_option maxHeartbeats 400000 in
theorem isempty_any {w : World} {p q n : Nat} {L : List Tk} (h : PlP w p q n L) {k : Nat} (hk : k < n) : Calls Tryz.prog 144 #[.pointer (some ⟨q, k * 9, none⟩)] w fun e w' => e = .returned (.bool (clsAt L k == -1)) ∧ w = w' := by
  obtain ⟨l, hl, hr, he⟩ := h.row hk
  rw [← he]
  have HR := Lib.hid hr
  have HL := Lib.hid hl
  obtain ⟨z, hz⟩ : ∃ z, (l == List.replicate 8 false) = z := ⟨_, rfl⟩
  have heq : ∀ w', (Op.equalIn 10000 153 (.agg (encB7 l).toArray) (.agg #[.bool false, .bool false, .bool false, .bool false, .bool false, .bool false, .bool false, .bool false])).run Tryz.prog w' = .ok z w' := fun w' => hz ▸ equal_eight l (List.replicate 8 false) hl rfl w'
  rw [hz]
  have hgu := guard_eight
  clear h hr hl he hz
  go_enter Tryz.func144, Tryz.ntmps144
  go_wp2_with (first
    | ((with_reducible show wpList _ _ _ (⟨some 6, _, _, _, _, _⟩ :: _) _ _); refine wpList_load_agg (o := ⟨some 6, _, _, _, _, _⟩) rfl 153 (.tmp 5) rfl q (k * 9) rfl (encB7 l) _ HR.out Tryz.underlying153 rfl (by rw [encB7_len, HL.out]; exact size_eight) ?_))
  go_ret
  exact ⟨rfl, rfl⟩
set_option maxHeartbeats 400000 in
theorem pisclass_any (c : Int) (w : World) : Calls Tryz.prog 93 #[.int .i64 c] w fun e w' => e = .returned (.bool (decide (0 < spanN c))) ∧ w = w' := by
  have HS := Lib.hid (span_any c w)
  generalize spanN c = s at *
  go_enter Tryz.func93, Tryz.ntmps93
  go_wp2_with fail
  refine HS.out.mono ?_
  rintro e w' ⟨rfl, rfl⟩
  go_wp2
  go_ret
  exact ⟨bool_eq (by simp), rfl⟩
theorem fresh_eights (n : Nat) : Eights (freshS n) := (fresh_of n).eight
def zeroSb : Sb := ⟨List.replicate 8 false, 0⟩
theorem made_slabs (z : Array Value) (hz : z.toList = zeroSb.cells) (n : Nat) : (madeCells z (n * 9)).toList = flatS (freshS n) := by
  have hl := Sb.cells_len (s := zeroSb) rfl
  have hs : z.size = 9 := by rw [← Array.length_toList, hz, hl]
  apply List.ext_getElem?
  intro m
  rcases Nat.lt_or_ge m (n * 9) with h | h
  · have h2 : m / 9 < n := by omega
    have hc : (freshS n)[m / 9]? = some zeroSb := by rw [freshS, List.getElem?_replicate, if_pos h2]; rfl
    have hf := flatS_at (fresh_eights n) hc (m % 9) (by omega)
    rw [show m / 9 * 9 + m % 9 = m by omega] at hf
    rw [hf, ← hz]
    have h3 : m % 9 < z.size := by omega
    simp only [madeCells, Array.getElem?_toList, Array.getElem?_map, Array.getElem?_range, h, if_true, Option.map_some, hs]
    rw [getElem!_pos z _ h3, Array.getElem?_eq_getElem h3]
  · rw [List.getElem?_eq_none (by simp [madeCells]; exact h), List.getElem?_eq_none (by rw [flatS_len (fresh_eights n), freshS, List.length_replicate]; exact h)]
theorem slab_info : (Tryz.prog.info? 155).map (fun i => (i.zero, i.size, decide (i.bytes ≤ 64))) = some (some (.agg zeroSb.cells.toArray), 9, true) := by kernel_rfl
/-- What New makes. -/
theorem pnew_made (w : World) (n : Nat) (hn : n ≤ 32) : ∃ w1, (Instr.makeSlice 175 (.int .i64 (n : Int)) (.int .i64 (n : Int))).run Tryz.prog w = .ok (.slice (some ⟨w.heap.size, 0, none⟩) n n) w1 ∧
    w1.heap[w.heap.size]? = some (.cells (flatS (freshS n)).toArray 155 (0, 0)) ∧ Below w.heap.size w w1 ∧ w1.heap.size = w.heap.size + 1 := by
  obtain ⟨i, hi, hz, hs, hy⟩ : ∃ i, Tryz.prog.info? 155 = some i ∧ i.zero = some (.agg zeroSb.cells.toArray) ∧ i.size = 9 ∧ i.bytes ≤ 64 := by
    obtain ⟨i, h1, h2⟩ := Option.map_eq_some_iff.1 slab_info
    simp only [Prod.mk.injEq, decide_eq_true_eq] at h2
    exact ⟨i, h1, h2.1, h2.2.1, h2.2.2⟩
  have hmk := run_make (P := Tryz.prog) w 175 155 i _ Tryz.underlying175 hi hz .i64 .i64 (n : Int) (n : Int) (by omega) (by omega) (by
    have h1 : (i.bytes : Int) * (n : Int) ≤ 64 * 32 := Int.mul_le_mul (by omega) (by omega) (by omega) (by omega)
    omega) (by omega)
  rw [Int.toNat_natCast, hs] at hmk
  refine ⟨_, hmk, ?_, (Below.refl _ _).alloc (Nat.le_refl _) _, by simp⟩
  have := made_slabs (Value.cells (.agg zeroSb.cells.toArray)) rfl n
  rw [← this]
  show (w.heap.push _)[w.heap.size]? = _
  simp
/-- What New leaves where it does not refuse. -/
def MadeP (w : World) (n : Nat) (e : Ending) (w' : World) : Prop :=
  ∃ p q, e = .returned (.tuple #[.pointer (some ⟨p, 0, none⟩), .int .i64 0]) ∧ w.heap.size ≤ p ∧ w.heap.size ≤ q ∧ PlP w' p q n [] ∧ Below w.heap.size w w'
set_option maxHeartbeats 400000 in
theorem pnew_ok (n : Nat) (h1 : 1 ≤ n) (h2 : n ≤ 32) (w : World) : Calls Tryz.prog 132 #[.int .i64 n] w (MadeP w n) := by
  have HS : Hid (Calls Tryz.prog 133 #[.int .i64 258] w fun e w' => e = .returned (.int .i64 32) ∧ w = w') := slabs_any 258 (by decide) w
  obtain ⟨w1, hmk, hq, hb, hs⟩ := pnew_made w n h2
  have HQ := Lib.hid hq
  have HB := Lib.hid hb
  obtain ⟨g, hg⟩ : ∃ g, w.heap.size = g := ⟨_, rfl⟩
  rw [hg] at hmk HQ HB hs
  have HG := Lib.hid hg
  have HSZ := Lib.hid hs
  clear hq hb hg hs
  have h3 : ¬ (n : Int) < 1 := by omega
  have h4 : ¬ 32 < (n : Int) := by omega
  go_enter Tryz.func132, Tryz.ntmps132
  go_wp2_with fail
  refine HS.out.mono ?_
  rintro e w' ⟨rfl, rfl⟩
  go_wp2
  go_ret2
  have hs1 := HSZ.out
  refine ⟨w1.heap.size, g, rfl, by have := HG.out; omega, Nat.le_of_eq HG.out, ⟨pool_nil n, h1, h2, freshS n, fresh_of n, ⟨by omega, ?_, ?_⟩⟩, ?_⟩
  · show (w1.heap.push _)[w1.heap.size]? = _
    simp [freshS]
  · rw [Below.heap_alloc _ _ _ (by omega)]
    exact HQ.out
  · rw [HG.out]
    exact HB.out.alloc (by omega) _
set_option maxHeartbeats 400000 in
theorem pfind_no {w : World} {p q n : Nat} {L : List Tk} (h : PlP w p q n L) (x : Int) (hx : slabOfN x < 0 ∨ (n : Int) ≤ slabOfN x) : Calls Tryz.prog 69 #[.pointer (some ⟨p, 0, none⟩), .int .i64 x] w fun e w' => e = .returned (.tuple #[.pointer none, .int .i64 0]) ∧ w = w' := by
  have HS := Lib.hid (slabof_any x w)
  have hsl := h.slice
  have hn := h.most
  generalize slabOfN x = k at *
  rcases Classical.em (k < 0) with h1 | h1
  · clear hx h hsl
    go_enter Tryz.func69, Tryz.ntmps69
    go_wp2_with fail
    refine HS.out.mono ?_
    rintro e w' ⟨rfl, rfl⟩
    go_wp2
    go_ret2
    exact ⟨rfl, rfl⟩
  · have h2 : (n : Int) ≤ k := by omega
    clear hx h
    go_enter Tryz.func69, Tryz.ntmps69
    go_wp2_with fail
    refine HS.out.mono ?_
    rintro e w' ⟨rfl, rfl⟩
    go_wp2
    go_ret2
    exact ⟨rfl, rfl⟩
set_option maxHeartbeats 400000 in
theorem find_yes {w : World} {p q n : Nat} {L : List Tk} (h : PlP w p q n L) (x : Int) (k j : Nat) (hk : k < n) (hj : j < 8) (hx : x = 2 + 8 * (k : Int) + j) : Calls Tryz.prog 69 #[.pointer (some ⟨p, 0, none⟩), .int .i64 x] w fun e w' => e = .returned (.tuple #[.pointer (some ⟨q, k * 9, none⟩), .int .i64 j]) ∧ ∃ m, w' = w.drewN m := by
  have hn := h.most
  have HS := Lib.hid (slabof_any x w)
  rw [hx, line_slab (by omega) hj, ← hx] at HS
  have HB := Lib.hid (fun w' => slab_any k w')
  have hsl := h.slice
  have hsb : slabN k = 2 + 8 * (k : Int) := by unfold slabN; rw [if_pos (by omega)]
  rw [hsb] at HB
  clear hsb h
  have h1 : ¬ (k : Int) < 0 := by omega
  have h2 : (k : Int) < (n : Int) := by omega
  have h3 : 2 + 8 * (k : Int) + (j : Int) - (2 + 8 * (k : Int)) = j := by omega
  subst hx
  go_enter Tryz.func69, Tryz.ntmps69
  go_wp2_with fail
  refine HS.out.mono ?_
  rintro e w' ⟨rfl, rfl⟩
  go_wp2
  go_quiet ((go_at_call 83; exact (HB.out _).mono fun _ _ hh => ⟨hh.1, _, hh.2.symm⟩))
  go_wp2
  go_ret2
  exact ⟨rfl, nq, rfl⟩

end Go.Proofs.YtlghphccmgmomaaGreat

/-
  Proved here: what package palloc's Of, Give and Mark answer and leave.
  Conditions: none.
-/
namespace Go.Proofs.YtlghphccmgmomaaGreat
open Go Go.RowKit
set_option maxRecDepth 100000

theorem line_cases (n : Nat) (x : Int) : (slabOfN x < 0 ∨ (n : Int) ≤ slabOfN x) ∨ ∃ k j : Nat, k < n ∧ j < 8 ∧ x = 2 + 8 * (k : Int) + j := by
  rcases Classical.em (slabOfN x < 0 ∨ (n : Int) ≤ slabOfN x) with h | h
  · exact .inl h
  · right
    obtain ⟨h1, h2, h3⟩ := slabOfN_in (x := x) (by omega)
    exact ⟨((x - 2) / 8).toNat, ((x - 2) % 8).toNat, by omega, by omega, by omega⟩
theorem of_out {n : Nat} {L : List Tk} (h : Pool7 n L) {x : Int} (hx : slabOfN x < 0 ∨ (n : Int) ≤ slabOfN x) : ofL L x = none := ofL_none.2 fun t ht e => by
  have h1 := h.slab t ht
  have h2 := (home_cls (h.home t ht)).1
  rw [e] at h1 h2
  omega
theorem of_cls {n : Nat} {L : List Tk} (h : Pool7 n L) {x c : Int} (e : ofL L x = some c) : clsAt L (slabOfN x) = c := clsAt_mem h ((ofL_some h.rising).1 e)
set_option maxHeartbeats 400000 in
theorem of_any {w : World} {p q n : Nat} {L : List Tk} (h : PlP w p q n L) (x : Int) : Calls Tryz.prog 56 #[.pointer (some ⟨p, 0, none⟩), .int .i64 x] w fun e w' => e = .returned (.tuple #[.int .i64 ((ofL L x).getD 0), .bool (ofL L x).isSome]) ∧ ∃ m, w' = w.drewN m := by
  rcases line_cases n x with hx | ⟨k, j, hk, hj, hx⟩
  · have HF := Lib.hid (pfind_no h x hx)
    rw [of_out h.pool hx]
    show Calls _ _ _ _ fun e w' => e = .returned (.tuple #[.int .i64 0, .bool false]) ∧ ∃ m, w' = w.drewN m
    clear hx h
    go_enter Tryz.func56, Tryz.ntmps56
    go_wp2_with fail
    refine HF.out.mono ?_
    rintro e w' ⟨rfl, rfl⟩
    go_wp2
    go_ret2
    exact ⟨rfl, 0, rfl⟩
  · have HF := Lib.hid (find_yes h x k j hk hj hx)
    have ht := h.taken hk hj
    rw [← hx] at ht
    obtain ⟨z, hz, hc⟩ := h.cls hk
    have hsl : slabOfN x = k := by rw [hx]; exact line_slab (by have := h.most; omega) hj
    have hj2 : (j : Int) < 8 := by omega
    cases e : ofL L x with
    | none =>
      rw [e] at ht
      replace ht : w.cell? ⟨q, k * 9 + j, none⟩ = some (.bool false) := ht
      show Calls _ _ _ _ fun e w' => e = .returned (.tuple #[.int .i64 0, .bool false]) ∧ ∃ m, w' = w.drewN m
      clear hx h hc hz hsl e
      go_enter Tryz.func56, Tryz.ntmps56
      go_wp2_with fail
      refine HF.out.mono ?_
      rintro e w' ⟨rfl, m, rfl⟩
      go_wp2
      go_ret2
      exact ⟨rfl, m, rfl⟩
    | some c =>
      have h1 := of_cls h.pool e
      have h2 := (home_cls (h.pool.home _ ((ofL_some h.pool.rising).1 e))).2.2
      rw [e] at ht
      rw [hsl] at h1
      replace ht : w.cell? ⟨q, k * 9 + j, none⟩ = some (.bool true) := ht
      show Calls _ _ _ _ fun e w' => e = .returned (.tuple #[.int .i64 c, .bool true]) ∧ ∃ m, w' = w.drewN m
      obtain rfl : z = c := by rw [hc (by omega)]; exact h1
      clear hx h hc hsl e h1 h2
      go_enter Tryz.func56, Tryz.ntmps56
      go_wp2_with fail
      refine HF.out.mono ?_
      rintro e w' ⟨rfl, m, rfl⟩
      go_wp2
      go_ret2
      exact ⟨rfl, m, rfl⟩
theorem Turns.drewN {p q : Nat} {a w : World} (h : Turns p q a w) (m : Nat) : Turns p q a (w.drewN m) := ⟨h.os, h.tape, h.output, h.size, h.block⟩
theorem Turns.setCell_q {p q : Nat} {a w : World} (h : Turns p q a w) (o : Nat) (u : Value) : Turns p q a (w.setCell ⟨q, o, none⟩ u) :=
  h.trans ⟨rfl, rfl, rfl, by simp [World.setCell], fun k _ hk _ => Below.heap_setCell _ _ _ _ (by simpa using hk)⟩
def markL (n : Nat) (L : List Tk) (x c : Int) : List Tk := if markE n L x c = 0 then putL L x c else L
theorem markE_out {n : Nat} {L : List Tk} {x c : Int} (hx : slabOfN x < 0 ∨ (n : Int) ≤ slabOfN x) : markE n L x c = 1 := by
  unfold markE
  rw [if_pos]
  rcases hx with h | h
  · exact .inl (homeN_no (.inl h))
  · exact .inr h
/-- What is behind a mark that is not refused outright. -/
def MarkTo (w : World) (p q n : Nat) (L : List Tk) (x c : Int) (e : Ending) (w' : World) : Prop := e = .returned (.int .i64 (markE n L x c)) ∧ PlP w' p q n (markL n L x c) ∧ Turns p q w w'
set_option maxHeartbeats 800000 in
theorem mark_any {w : World} {p q n : Nat} {L : List Tk} (h : PlP w p q n L) (x c : Int) : Calls Tryz.prog 95 #[.pointer (some ⟨p, 0, none⟩), .int .i64 x, .int .i64 c] w (MarkTo w p q n L x c) := by
  have HP := Lib.hid h
  have HNO : Hid (∀ (v : Int) (m : Nat), v ≠ 0 → markE n L x c = v → MarkTo w p q n L x c (.returned (.int .i64 v)) (w.drewN m)) := fun v m hv e => by
    refine ⟨by rw [e], ?_, (Turns.refl _ _ _).drewN m⟩
    unfold markL
    rw [if_neg (by omega)]
    exact HP.out.drewN m
  rcases line_cases n x with hx | ⟨k, j, hk, hj, hx⟩
  · have HF := Lib.hid (pfind_no h x hx)
    have HE := Lib.hid (HNO.out 1 0 (by omega) (markE_out hx))
    obtain ⟨R, hR⟩ : ∃ R, MarkTo w p q n L x c = R := ⟨_, rfl⟩
    rw [hR] at HE ⊢
    clear hx h HNO hR
    go_enter Tryz.func95, Tryz.ntmps95
    go_wp2_with fail
    refine HF.out.mono ?_
    rintro e w' ⟨rfl, rfl⟩
    go_wp2
    exact HE.out
  · have HF := Lib.hid (find_yes h x k j hk hj hx)
    have HH := Lib.hid (fun w' => home_any x c w')
    have hn := h.most
    have hsl : slabOfN x = k := by rw [hx]; exact line_slab (by omega) hj
    have HEM : Hid (∀ m, Calls Tryz.prog 144 #[.pointer (some ⟨q, k * 9, none⟩)] (w.drewN m) fun e w' => e = .returned (.bool (clsAt L k == -1)) ∧ w.drewN m = w') := fun m => isempty_any (h.drewN m) hk
    have ht := h.taken hk hj
    rw [← hx] at ht
    have hfr := h.frozen (k * 9 + j)
    have hfc := h.frozen (k * 9 + 8)
    have hj2 : (j : Int) < 8 := by omega
    obtain ⟨z, hz, hc⟩ := h.cls hk
    have hrg := clsAt_range h.pool k
    have HM : Hid (markE n L x c = if homeN x c = false then 1 else if (ofL L x).isSome ∨ (0 ≤ clsAt L k ∧ clsAt L k ≠ c) then 7 else 0) := by
      show _ = _
      unfold markE
      rw [hsl]
      by_cases hh : homeN x c = false
      · rw [if_pos (.inl hh), if_pos hh]
      · rw [if_neg (by rintro (h1 | h1); exact hh h1; omega), if_neg hh]
    have HYES : Hid (markE n L x c = 0 → ∀ m, MarkTo w p q n L x c (.returned (.int .i64 0)) (((w.drewN m).setCell ⟨q, k * 9 + 8, none⟩ (.int .i64 c)).setCell ⟨q, k * 9 + j, none⟩ (.bool true))) := fun e m => by
      refine ⟨by rw [e], ?_, (((Turns.refl _ _ _).drewN m).setCell_q _ _).setCell_q _ _⟩
      unfold markL
      rw [if_pos e]
      exact (HP.out.drewN m).put hk hj hx e
    obtain ⟨R, hR⟩ : ∃ R, MarkTo w p q n L x c = R := ⟨_, rfl⟩
    rw [hR] at HNO HYES ⊢
    generalize homeN x c = hm at *
    generalize clsAt L k = cl at *
    generalize markE n L x c = me at *
    generalize (ofL L x).isSome = tk at *
    clear hx h hR hsl HP
    cases hm with
    | false =>
      have HE := Lib.hid (fun m => HNO.out 1 m (by omega) (by rw [HM.out]; rfl))
      clear HM HYES HNO HEM hc hz ht hfr hfc
      go_enter Tryz.func95, Tryz.ntmps95
      go_wp2_with fail
      refine HF.out.mono ?_
      rintro e w' ⟨rfl, m, rfl⟩
      go_wp2_with fail
      refine (HH.out _).mono ?_
      rintro e w' ⟨rfl, rfl⟩
      go_wp2
      exact HE.out m
    | true =>
      rcases Classical.em (cl = -1) with he | he
      · have hcl : (cl == -1) = true := by simpa using he
        cases tk with
        | true =>
          have HE := Lib.hid (fun m => HNO.out 7 m (by omega) (by rw [HM.out]; simp))
          clear HM HYES HNO hc hz hfr hfc he hrg
          go_enter Tryz.func95, Tryz.ntmps95
          go_wp2_with fail
          refine HF.out.mono ?_
          rintro e w' ⟨rfl, m, rfl⟩
          go_wp2_with fail
          refine (HH.out _).mono ?_
          rintro e w' ⟨rfl, rfl⟩
          go_wp2_with fail
          refine (HEM.out _).mono ?_
          rintro e w' ⟨rfl, rfl⟩
          go_wp2
          exact HE.out m
        | false =>
          have HE := Lib.hid (HYES.out (by rw [HM.out, he]; simp))
          clear HM HYES HNO hc he hrg
          go_enter Tryz.func95, Tryz.ntmps95
          go_wp2_with fail
          refine HF.out.mono ?_
          rintro e w' ⟨rfl, m, rfl⟩
          go_wp2_with fail
          refine (HH.out _).mono ?_
          rintro e w' ⟨rfl, rfl⟩
          go_wp2_with fail
          refine (HEM.out _).mono ?_
          rintro e w' ⟨rfl, rfl⟩
          go_wp2
          go_region
          go_wp2
          exact HE.out (m + 1)
      · have hcl : (cl == -1) = false := by simpa using he
        obtain rfl := hc he
        have h0 : 0 ≤ z := by omega
        rcases Classical.em (z = c) with hzc | hzc
        · have hne : (z != c) = false := by simpa using hzc
          cases tk with
          | true =>
            have HE := Lib.hid (fun m => HNO.out 7 m (by omega) (by rw [HM.out]; simp))
            clear HM HYES HNO hc hfr hfc he hrg hzc h0
            go_enter Tryz.func95, Tryz.ntmps95
            go_wp2_with fail
            refine HF.out.mono ?_
            rintro e w' ⟨rfl, m, rfl⟩
            go_wp2_with fail
            refine (HH.out _).mono ?_
            rintro e w' ⟨rfl, rfl⟩
            go_wp2_with fail
            refine (HEM.out _).mono ?_
            rintro e w' ⟨rfl, rfl⟩
            go_wp2
            exact HE.out m
          | false =>
            have HE := Lib.hid (HYES.out (by rw [HM.out, hzc]; simp))
            clear HM HYES HNO hc he hrg hzc h0
            go_enter Tryz.func95, Tryz.ntmps95
            go_wp2_with fail
            refine HF.out.mono ?_
            rintro e w' ⟨rfl, m, rfl⟩
            go_wp2_with fail
            refine (HH.out _).mono ?_
            rintro e w' ⟨rfl, rfl⟩
            go_wp2_with fail
            refine (HEM.out _).mono ?_
            rintro e w' ⟨rfl, rfl⟩
            go_wp2
            go_region
            go_wp2
            exact HE.out (m + 1)
        · have hne : (z != c) = true := by simpa using hzc
          have HE := Lib.hid (fun m => HNO.out 7 m (by omega) (by rw [HM.out, if_neg (by simp), if_pos (.inr ⟨h0, hzc⟩)]))
          clear HM HYES HNO hc hfr hfc he hrg hzc h0 ht
          go_enter Tryz.func95, Tryz.ntmps95
          go_wp2_with fail
          refine HF.out.mono ?_
          rintro e w' ⟨rfl, m, rfl⟩
          go_wp2_with fail
          refine (HH.out _).mono ?_
          rintro e w' ⟨rfl, rfl⟩
          go_wp2_with fail
          refine (HEM.out _).mono ?_
          rintro e w' ⟨rfl, rfl⟩
          go_wp2
          exact HE.out m

end Go.Proofs.YtlghphccmgmomaaGreat
