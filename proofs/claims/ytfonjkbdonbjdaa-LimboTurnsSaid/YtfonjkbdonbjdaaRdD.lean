/-
  Proved here: what package reader's Quiet and New answer and leave.
  Conditions: none.
-/
import Derived.Test.YtfonjkbdonbjdaaRdC
namespace Go.Proofs.Ytfonjkbdonbjdaa
open Go Go.RowKit

set_option maxHeartbeats 400000 in
theorem rdquiet_nil (x : Int) (w : World) : Calls Try.prog 23 #[.pointer none, .int .u64 x] w fun e w' => e = .returned (.bool false) ∧ w = w' := by
  go_enter Try.func23, Try.ntmps23
  go_wp2
  go_ret
  exact ⟨rfl, rfl⟩
set_option maxHeartbeats 400000 in
theorem rdquiet_any {w : World} {p q : Nat} {L : List Nat} {now : Nat} (h : RdP w p q L now) (x : Nat) : Calls Try.prog 23 #[.pointer (some ⟨p, 0, none⟩), .int .u64 x] w fun e w' => e = .returned (.bool (quietB L x)) ∧ w = w' := by
  have H := Lib.hid (rdleast_any h)
  have hq : quietB L x = decide (leastL L = 0 ∨ x < leastL L) := rfl
  rw [hq]
  generalize leastL L = m at *
  clear h hq
  rcases Classical.em (m = 0) with hm | hm
  · subst hm
    go_enter Try.func23, Try.ntmps23
    go_wp2_with fail
    refine H.out.mono ?_
    rintro e w' ⟨rfl, rfl⟩
    go_wp2
    go_ret
    exact ⟨rfl, rfl⟩
  · have hm1 : (m != 0) = true := by simp; omega
    have hz : decide (m = 0 ∨ x < m) = decide ((x : Int) < (m : Int)) := by simp [hm]
    rw [hm1] at H
    rw [hz]
    clear hm hm1 hz
    go_enter Try.func23, Try.ntmps23
    go_wp2_with fail
    refine H.out.mono ?_
    rintro e w' ⟨rfl, rfl⟩
    go_wp2
    go_ret
    exact ⟨bool_eq (by simp), rfl⟩
theorem uint_info : (Try.prog.info? 70).map (fun i => (i.zero, i.size, decide (i.bytes ≤ 64))) = some (some (.agg #[.int .u64 0]), 1, true) := by kernel_rfl
/-- What New makes. -/
theorem madeU (w : World) (n : Nat) (hn : n ≤ 4) : ∃ w1, (Instr.makeSlice 65 (.int .i64 (n : Int)) (.int .i64 (n : Int))).run Try.prog w = .ok (.slice (some ⟨w.heap.size, 0, none⟩) n n) w1 ∧
    w1.heap[w.heap.size]? = some (.cells (encU (List.replicate n 0)).toArray 70 (0, 0)) ∧ Below w.heap.size w w1 ∧ w1.heap.size = w.heap.size + 1 := by
  obtain ⟨i, hi, hz, hs, hy⟩ : ∃ i, Try.prog.info? 70 = some i ∧ i.zero = some (.agg #[.int .u64 0]) ∧ i.size = 1 ∧ i.bytes ≤ 64 := by
    obtain ⟨i, h1, h2⟩ := Option.map_eq_some_iff.1 uint_info
    simp only [Prod.mk.injEq, decide_eq_true_eq] at h2
    exact ⟨i, h1, h2.1, h2.2.1, h2.2.2⟩
  have hmk := run_make (P := Try.prog) w 65 70 i _ Try.underlying65 hi hz .i64 .i64 (n : Int) (n : Int) (by omega) (by omega) (by
    have h1 : (i.bytes : Int) * (n : Int) ≤ 64 * 32 := Int.mul_le_mul (by omega) (by omega) (by omega) (by omega)
    omega) (by omega)
  rw [Int.toNat_natCast, hs, Nat.mul_one] at hmk
  refine ⟨_, hmk, ?_, (Below.refl _ _).alloc (Nat.le_refl _) _, by simp⟩
  have : (madeCells (Value.cells (.int .u64 0)) n).toList = encU (List.replicate n 0) := by
    refine (toList_madeCells_one (.int .u64 0) n).trans ?_
    rw [encU, List.map_replicate]
    rfl
  rw [← this]
  show (w.heap.push _)[w.heap.size]? = _
  simp [Value.cells]
theorem clk_new {n : Nat} (h1 : 1 ≤ n) (h2 : n ≤ 4) : Clk (List.replicate n 0) 1 := ⟨by omega, by omega, fun x hx => by rw [List.mem_replicate] at hx; omega, by simpa using h1, by simpa using h2⟩
/-- What New leaves where it does not refuse. -/
def MadeRd (w : World) (n : Nat) (e : Ending) (w' : World) : Prop :=
  ∃ p q, e = .returned (.tuple #[.pointer (some ⟨p, 0, none⟩), .int .i64 0]) ∧ w.heap.size ≤ p ∧ w.heap.size ≤ q ∧ RdP w' p q (List.replicate n 0) 1 ∧ Below w.heap.size w w'
set_option maxHeartbeats 400000 in
theorem rdnew_bad (x : Int) (hx : x < 1 ∨ 4 < x) (w : World) : Calls Try.prog 10 #[.int .i64 x] w fun e w' => e = .returned (.tuple #[.pointer none, .int .i64 2]) ∧ w = w' := by
  rcases Classical.em (x < 1) with h1 | h1
  · clear hx
    go_enter Try.func10, Try.ntmps10
    go_wp2
    go_ret2
    exact ⟨rfl, rfl⟩
  · have h2 : 4 < x := by omega
    clear hx
    go_enter Try.func10, Try.ntmps10
    go_wp2
    go_ret2
    exact ⟨rfl, rfl⟩
set_option maxHeartbeats 400000 in
theorem rdnew_ok (n : Nat) (h1 : 1 ≤ n) (h2 : n ≤ 4) (w : World) : Calls Try.prog 10 #[.int .i64 n] w (MadeRd w n) := by
  obtain ⟨w1, hmk, hq, hb, hs⟩ := madeU w n h2
  obtain ⟨g, hg⟩ : ∃ g, w.heap.size = g := ⟨_, rfl⟩
  rw [hg] at hmk hq hb hs
  have hA : (w1.alloc (.cells #[.int .u64 0, .slice (some ⟨g, 0, none⟩) n n] 72)).heap[g + 1]? = some (.cells #[.int .u64 0, .slice (some ⟨g, 0, none⟩) n n] 72 (0, 0)) := by
    rw [← hs]
    show (w1.heap.push _)[w1.heap.size]? = _
    simp
  have hG : (w1.alloc (.cells #[.int .u64 0, .slice (some ⟨g, 0, none⟩) n n] 72)).heap[g]? = some (.cells (encU (List.replicate n 0)).toArray 70 (0, 0)) := by
    rw [Below.heap_alloc _ _ _ (by omega)]
    exact hq
  have HB2 : Hid (Below g w (w1.alloc (.cells #[.int .u64 0, .slice (some ⟨g, 0, none⟩) n n] 72))) := hb.alloc (by omega) _
  obtain ⟨w2, hw2⟩ : ∃ w2, w1.alloc (.cells #[.int .u64 0, .slice (some ⟨g, 0, none⟩) n n] 72) = w2 := ⟨_, rfl⟩
  rw [hw2] at hA hG HB2
  have hc : w2.cell? ⟨g + 1, 0, none⟩ = some (.int .u64 0) := by simp [World.cell?, hA]
  have hz : w2.frozen? ⟨g + 1, 0, none⟩ = false := by simp [World.frozen?, hA]
  have H := Lib.hid (ustore (g + 1) 0 _ 1 w2 hc hz)
  have HR : Hid (RdP (w2.setCell ⟨g + 1, 0, none⟩ (.int .u64 1)) (g + 1) g (List.replicate n 0) 1) := by
    refine ⟨clk_new h1 h2, by omega, ?_, ?_⟩
    · rw [heap_setCell_same w2 (g + 1) 0 _ 72 _ hA]
      simp [headRd]
    · rw [Below.heap_setCell _ _ _ _ (by simp)]
      exact hG
  have HB3 : Hid (Below g w (w2.setCell ⟨g + 1, 0, none⟩ (.int .u64 1))) := HB2.out.setCell (by show g ≤ g + 1; omega) _
  have HG := Lib.hid hg
  have HSZ := Lib.hid hs
  have HW2 := Lib.hid hw2
  have HFIN : Hid (∀ e w', e = .returned (.tuple #[.pointer (some ⟨g + 1, 0, none⟩), .int .i64 0]) → w2.setCell ⟨g + 1, 0, none⟩ (.int .u64 1) = w' → MadeRd w n e w') := fun e w' he hw => by
    subst hw
    exact ⟨g + 1, g, he, by omega, by omega, HR.out, by rw [hg]; exact HB3.out⟩
  generalize w2.setCell ⟨g + 1, 0, none⟩ (.int .u64 1) = w3 at *
  have hn1 : ¬ (n : Int) < 1 := by omega
  have hn4 : ¬ (4 : Int) < (n : Int) := by omega
  clear hA hG hb hq hg hc hz
  go_enter Try.func10, Try.ntmps10
  go_wp2_with fail
  refine H.out.mono ?_
  rintro e w' ⟨rfl, rfl⟩
  go_wp2
  go_ret2
  exact HFIN.out _ _ rfl rfl

end Go.Proofs.Ytfonjkbdonbjdaa
