/-
  Proved here: what chapter 8's own New, Advance, Inside, Enter and Leave answer and leave.
  Conditions: epochs below 2^32.
-/
import Derived.Test.YtfonjkbdonbjdaaRdD
namespace Go.Proofs.Ytfonjkbdonbjdaa
open Go Go.RowKit

abbrev RdR (w : World) (p q : Nat) (L : List Nat) (now : Nat) : Prop := Rd 38 76 false w p q L now
theorem u64_info : (Try.prog.info? 38).map (fun i => (i.zero, i.size, decide (i.bytes ≤ 64))) = some (some (.int .u64 0), 1, true) := by kernel_rfl
theorem madeV (w : World) (n : Nat) (hn : n ≤ 4) : ∃ w1, (Instr.makeSlice 74 (.int .i64 (n : Int)) (.int .i64 (n : Int))).run Try.prog w = .ok (.slice (some ⟨w.heap.size, 0, none⟩) n n) w1 ∧
    w1.heap[w.heap.size]? = some (.cells (encU (List.replicate n 0)).toArray 38 (0, 0)) ∧ Below w.heap.size w w1 ∧ w1.heap.size = w.heap.size + 1 := by
  obtain ⟨i, hi, hz, hs, hy⟩ : ∃ i, Try.prog.info? 38 = some i ∧ i.zero = some (.int .u64 0) ∧ i.size = 1 ∧ i.bytes ≤ 64 := by
    obtain ⟨i, h1, h2⟩ := Option.map_eq_some_iff.1 u64_info
    simp only [Prod.mk.injEq, decide_eq_true_eq] at h2
    exact ⟨i, h1, h2.1, h2.2.1, h2.2.2⟩
  have hmk := run_make (P := Try.prog) w 74 38 i _ Try.underlying74 hi hz .i64 .i64 (n : Int) (n : Int) (by omega) (by omega) (by
    have h1 : (i.bytes : Int) * (n : Int) ≤ 64 * 32 := Int.mul_le_mul (by omega) (by omega) (by omega) (by omega)
    omega) (by omega)
  rw [Int.toNat_natCast, hs, Nat.mul_one] at hmk
  refine ⟨_, hmk, ?_, (Below.refl _ _).alloc (Nat.le_refl _) _, by simp⟩
  have : (madeCells (Value.cells (.int .u64 0)) n).toList = encU (List.replicate n 0) := by
    refine (toList_madeCells_one (.int .u64 0) n).trans ?_
    rw [encU, List.map_replicate]
    rfl
  rw [← this]
  show (w.heap.push _)[w.heap.size]? = _
  simp
def MadeR8 (w : World) (n : Nat) (e : Ending) (w' : World) : Prop :=
  ∃ p q, e = .returned (.tuple #[.pointer (some ⟨p, 0, none⟩), .int .i64 0]) ∧ w.heap.size ≤ p ∧ w.heap.size ≤ q ∧ RdR w' p q (List.replicate n 0) 1 ∧ Below w.heap.size w w'
set_option maxHeartbeats 400000 in
theorem r8new_bad (x : Int) (hx : x < 1 ∨ 4 < x) (w : World) : Calls Try.prog 11 #[.int .i64 x] w fun e w' => e = .returned (.tuple #[.pointer none, .int .i64 2]) ∧ w = w' := by
  rcases Classical.em (x < 1) with h1 | h1
  · clear hx
    go_enter Try.func11, Try.ntmps11
    go_wp2
    go_ret2
    exact ⟨rfl, rfl⟩
  · have h2 : 4 < x := by omega
    clear hx
    go_enter Try.func11, Try.ntmps11
    go_wp2
    go_ret2
    exact ⟨rfl, rfl⟩
set_option maxHeartbeats 400000 in
theorem r8new_ok (n : Nat) (h1 : 1 ≤ n) (h2 : n ≤ 4) (w : World) : Calls Try.prog 11 #[.int .i64 n] w (MadeR8 w n) := by
  obtain ⟨w1, hmk, hq, hb, hs⟩ := madeV w n h2
  obtain ⟨g, hg⟩ : ∃ g, w.heap.size = g := ⟨_, rfl⟩
  rw [hg] at hmk hq hb hs
  have hA : (w1.alloc (.cells #[.slice (some ⟨g, 0, none⟩) n n, .int .u64 1] 76)).heap[g + 1]? = some (.cells #[.slice (some ⟨g, 0, none⟩) n n, .int .u64 1] 76 (0, 0)) := by
    rw [← hs]
    show (w1.heap.push _)[w1.heap.size]? = _
    simp
  have hG : (w1.alloc (.cells #[.slice (some ⟨g, 0, none⟩) n n, .int .u64 1] 76)).heap[g]? = some (.cells (encU (List.replicate n 0)).toArray 38 (0, 0)) := by
    rw [Below.heap_alloc _ _ _ (by omega)]
    exact hq
  have HB2 : Hid (Below g w (w1.alloc (.cells #[.slice (some ⟨g, 0, none⟩) n n, .int .u64 1] 76))) := hb.alloc (by omega) _
  obtain ⟨w2, hw2⟩ : ∃ w2, w1.alloc (.cells #[.slice (some ⟨g, 0, none⟩) n n, .int .u64 1] 76) = w2 := ⟨_, rfl⟩
  rw [hw2] at hA hG HB2
  have HR : Hid (RdR w2 (g + 1) g (List.replicate n 0) 1) := by
    refine ⟨clk_new h1 h2, by omega, ?_, hG⟩
    rw [hA]
    simp [headRd]
  have HFIN : Hid (MadeR8 w n (.returned (.tuple #[.pointer (some ⟨g + 1, 0, none⟩), .int .i64 0])) w2) := ⟨g + 1, g, rfl, by omega, by omega, HR.out, by rw [hg]; exact HB2.out⟩
  have hn1 : ¬ (n : Int) < 1 := by omega
  have hn4 : ¬ (4 : Int) < (n : Int) := by omega
  clear hA hG hb hq hg
  go_enter Try.func11, Try.ntmps11
  go_wp2
  go_ret2
  exact HFIN.out
set_option maxHeartbeats 400000 in
theorem r8adv_any {w : World} {p q : Nat} {L : List Nat} {now : Nat} (h : RdR w p q L now) (hn : now + 1 < 4294967296) : Calls Try.prog 33 #[.pointer (some ⟨p, 0, none⟩)] w fun e w' => e = .returned (.int .u64 (now + 1 : Nat)) ∧ RdR w' p q L (now + 1) ∧ Turns p q w w' := by
  have hc := h.now1
  have hz := h.frozenP 1
  have HR : Hid (RdR (w.setCell ⟨p, 1, none⟩ (.int .u64 (now + 1 : Nat))) p q L (now + 1)) := h.setNow1 (now + 1) (h.clk.advance hn)
  have HT : Hid (Turns p q w (w.setCell ⟨p, 1, none⟩ (.int .u64 (now + 1 : Nat)))) := (Turns.refl p q w).setCell_p _ _
  have h1 : ((now + 1 : Nat) : Int) = (now : Int) + 1 := by omega
  rw [h1] at HR HT ⊢
  have hb : (now : Int) + 1 < 18446744073709551616 := by omega
  have hb0 : (0 : Int) ≤ (now : Int) + 1 := by omega
  generalize now + 1 = m at *
  clear h hn h1
  go_enter Try.func33, Try.ntmps33
  go_wp2
  go_ret
  exact ⟨rfl, HR.out, HT.out⟩
set_option maxHeartbeats 800000 in
theorem r8enter_any {w : World} {p q : Nat} {L : List Nat} {now : Nat} (h : RdR w p q L now) (t : Int) : Calls Try.prog 31 #[.pointer (some ⟨p, 0, none⟩), .int .i64 t] w fun e w' => e = .returned (.tuple #[.int .u64 (enterV L now t : Nat), .int .i64 (enterE L t)]) ∧ RdR w' p q (enterL L now t) now ∧ Turns p q w w' := by
  have hs := h.slice0
  have hn := h.now1
  have hm := h.clk.many
  rcases Classical.em (inR L t) with ht | ht
  · obtain ⟨i, rfl⟩ := Int.eq_ofNat_of_zero_le ht.1
    have hi : i < L.length := by have := ht.2; omega
    have hc := h.at_ hi
    rcases Classical.em (L.getD i 0 = 0) with h0 | h0
    · have he : enterE L i = 0 := by unfold enterE; rw [if_pos ht, Int.toNat_natCast, if_pos h0]
      have hv : enterV L now i = now := by unfold enterV; rw [if_pos he]
      have hl : enterL L now i = L.set i now := by unfold enterL; rw [if_pos he]; simp
      rw [h0] at hc
      have HR : Hid (RdR (w.setCell ⟨q, i, none⟩ (.int .u64 now)).drew p q (enterL L now i) now) := by
        have := h.clk.enter i
        rw [hl] at this ⊢
        exact (h.set i now this).drew
      have HT : Hid (Turns p q w (w.setCell ⟨q, i, none⟩ (.int .u64 now)).drew) := (turns_q p q w i _).drew
      have hN : (w.setCell ⟨q, i, none⟩ (.int .u64 now)).cell? ⟨p, 1, none⟩ = some (.int .u64 (now : Nat)) := HR.out.now1
      have hfz := h.frozen i
      rw [he, hv]
      generalize enterL L now i = L' at *
      generalize L.length = n at *
      have k0 : ¬ (i : Int) < 0 := by omega
      have k1 : ¬ (n : Int) ≤ (i : Int) := by omega
      have k2 : (i : Int) < (n : Int) := by omega
      clear h ht he hv hl h0
      go_enter Try.func31, Try.ntmps31
      go_wp2
      go_region
      generalize w.setCell ⟨q, i, none⟩ (.int .u64 now) = w1 at *
      go_wp2
      go_ret2
      exact ⟨rfl, HR.out, HT.out⟩
    · have he : enterE L i = 7 := by unfold enterE; rw [if_pos ht, Int.toNat_natCast, if_neg h0]
      have hv : enterV L now i = 0 := by unfold enterV; rw [he]; rfl
      have hl : enterL L now i = L := by unfold enterL; rw [he]; rfl
      have HR := Lib.hid h
      rw [he, hv, hl]
      generalize L.length = n at *
      generalize L.getD i 0 = x at *
      have k0 : ¬ (i : Int) < 0 := by omega
      have k1 : ¬ (n : Int) ≤ (i : Int) := by omega
      have k2 : (i : Int) < (n : Int) := by omega
      have k3 : (0 : Int) < (x : Int) := by omega
      clear h ht he hv hl h0
      go_enter Try.func31, Try.ntmps31
      go_wp2
      go_ret2
      exact ⟨rfl, HR.out, Turns.refl _ _ _⟩
  · have he : enterE L t = 1 := by unfold enterE; rw [if_neg ht]
    have hv : enterV L now t = 0 := by unfold enterV; rw [he]; rfl
    have hl : enterL L now t = L := by unfold enterL; rw [he]; rfl
    rw [he, hv, hl]
    have HR := Lib.hid h
    unfold inR at ht
    generalize L.length = n at *
    clear h he hv hl
    rcases Classical.em (t < 0) with h0 | h0
    · clear ht
      go_enter Try.func31, Try.ntmps31
      go_wp2
      go_ret2
      exact ⟨rfl, HR.out, Turns.refl _ _ _⟩
    · have h1 : (n : Int) ≤ t := by omega
      clear ht
      go_enter Try.func31, Try.ntmps31
      go_wp2
      go_ret2
      exact ⟨rfl, HR.out, Turns.refl _ _ _⟩
set_option maxHeartbeats 400000 in
theorem r8leave_any {w : World} {p q : Nat} {L : List Nat} {now : Nat} (h : RdR w p q L now) (t : Int) : Calls Try.prog 32 #[.pointer (some ⟨p, 0, none⟩), .int .i64 t] w fun e w' => e = .returned (.int .i64 (leaveE L t)) ∧ RdR w' p q (leaveL L t) now ∧ Turns p q w w' := by
  have hs := h.slice0
  have hm := h.clk.many
  rcases Classical.em (inR L t) with ht | ht
  · obtain ⟨i, rfl⟩ := Int.eq_ofNat_of_zero_le ht.1
    have hi : i < L.length := by have := ht.2; omega
    have hl : leaveL L i = L.set i 0 := by unfold leaveL; rw [if_pos ht]; simp
    have hc := h.at_ hi
    have hfz := h.frozen i
    have HR : Hid (RdR (w.setCell ⟨q, i, none⟩ (.int .u64 0)) p q (leaveL L i) now) := by
      have := h.clk.leave i
      rw [hl] at this ⊢
      exact h.set i 0 this
    have HT : Hid (Turns p q w (w.setCell ⟨q, i, none⟩ (.int .u64 0))) := turns_q p q w i _
    have he : leaveE L i = if L.getD i 0 = 0 then 12 else 0 := by unfold leaveE; rw [if_pos ht]; simp
    rw [he]
    have HSM : Hid (L.getD i 0 = 0 → RdR w p q (leaveL L i) now) := fun h0 => by
      have : L.set i 0 = L := by
        apply List.ext_getElem (by simp)
        intro j h1 h2
        rw [List.getElem_set]
        split
        · rename_i hij; subst hij; rw [← h0]; simp [List.getD, List.getElem?_eq_getElem h2]
        · rfl
      rw [hl, this]
      exact h
    generalize leaveL L i = L' at *
    generalize L.getD i 0 = x at *
    generalize L.length = n at *
    have k0 : ¬ (i : Int) < 0 := by omega
    have k1 : ¬ (n : Int) ≤ (i : Int) := by omega
    have k2 : (i : Int) < (n : Int) := by omega
    clear h ht he hl
    rcases Classical.em (x = 0) with h0 | h0
    · have h1 : ((x : Int) == 0) = true := by simp; omega
      have HS2 := Lib.hid (HSM.out h0)
      rw [if_pos h0]
      clear h0
      go_enter Try.func32, Try.ntmps32
      go_wp2
      go_ret
      exact ⟨rfl, HS2.out, Turns.refl _ _ _⟩
    · have h1 : ((x : Int) == 0) = false := by simp; omega
      rw [if_neg h0]
      clear h0
      go_enter Try.func32, Try.ntmps32
      go_wp2
      go_ret
      exact ⟨rfl, HR.out, HT.out⟩
  · have he : leaveE L t = 1 := by unfold leaveE; rw [if_neg ht]
    have hl : leaveL L t = L := by unfold leaveL; rw [if_neg ht]
    rw [he, hl]
    have HR := Lib.hid h
    unfold inR at ht
    generalize L.length = n at *
    clear h he hl
    rcases Classical.em (t < 0) with h0 | h0
    · clear ht
      go_enter Try.func32, Try.ntmps32
      go_wp2
      go_ret
      exact ⟨rfl, HR.out, Turns.refl _ _ _⟩
    · have h1 : (n : Int) ≤ t := by omega
      clear ht
      go_enter Try.func32, Try.ntmps32
      go_wp2
      go_ret
      exact ⟨rfl, HR.out, Turns.refl _ _ _⟩

end Go.Proofs.Ytfonjkbdonbjdaa
