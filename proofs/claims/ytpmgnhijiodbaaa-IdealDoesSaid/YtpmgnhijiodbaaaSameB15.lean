/-
  Proved here: what SameShelf answers of two stores that hold the same.
  Conditions: rows of at most 2^20.
-/
import Derived.Test.YtpmgnhijiodbaaaKvMath15
namespace Go.Proofs.Ytpmgnhijiodbaaa
open Go Go.RowKit
set_option maxRecDepth 100000

theorem below_drewN0 (w : World) (k : Nat) : (w.drewN 0).drewN k = w.drewN k := by rfl
set_option maxHeartbeats 800000 in
/-- Two stores that hold the same. -/
theorem sames_any {w : World} {A B A2 B2 : Option Addr} {n c m d n2 c2 m2 d2 : Nat} {L : List Kv} {Q : List ByteArray} (h : Shv w A n c B m d L Q) (k : Shv w A2 n2 c2 B2 m2 d2 L Q) :
    Calls Try.prog 9 #[.agg #[.slice A n c, .slice B m d], .agg #[.slice A2 n2 c2, .slice B2 m2 d2]] w fun e w' => e = .returned (.bool true) ∧ Below w.heap.size w w' := by
  obtain rfl : n = n2 := h.n1.symm.trans k.n1
  obtain rfl : m = m2 := h.n2.symm.trans k.n2
  obtain ⟨g, hg⟩ : ∃ g, w.heap.size = g := ⟨_, rfl⟩
  obtain ⟨w1, hw1⟩ : ∃ w1, w.alloc (.cells #[.slice A n c, .slice B m d] 25) = w1 := ⟨_, rfl⟩
  have HS1 : Hid (w1.heap[g]? = some (.cells #[.slice A n c, .slice B m d] 25 (0, 0))) := by rw [← hw1, ← hg]; exact heap_alloc_new w _
  have HB1 : Hid (Below g w w1) := by rw [← hw1, ← hg]; exact (Below.refl _ _).alloc (Nat.le_refl _) _
  obtain ⟨g2, hg2⟩ : ∃ g, w1.heap.size = g := ⟨_, rfl⟩
  obtain ⟨w2, hw2⟩ : ∃ w2, w1.alloc (.cells #[.slice A2 n c2, .slice B2 m d2] 25) = w2 := ⟨_, rfl⟩
  have HLT : Hid (g < g2) := by rw [← hg2]; exact lt_of_heap HS1.out
  have HS2 : Hid (w2.heap[g2]? = some (.cells #[.slice A2 n c2, .slice B2 m d2] 25 (0, 0))) := by rw [← hw2, ← hg2]; exact heap_alloc_new w1 _
  have HB2' : Hid (Below g2 w1 w2) := by rw [← hw2, ← hg2]; exact (Below.refl _ _).alloc (Nat.le_refl _) _
  have HS12 : Hid (w2.heap[g]? = some (.cells #[.slice A n c, .slice B m d] 25 (0, 0))) := (HB2'.out.block g HLT.out).trans HS1.out
  have HB2 : Hid (Below g w w2) := HB1.out.trans (HB2'.out.mono (Nat.le_of_lt HLT.out))
  have HSP : Hid (∀ k', Calls Try.prog 26 #[.slice A n c, .slice A2 n c2] (w2.drewN k') fun e w' => e = .returned (.bool true) ∧ ∃ k, w' = (w2.drewN k').drewN k) := fun k' => samep_any _ A A2 n c c2 L h.n1 ((h.below (hg.symm ▸ below_drewN HB2.out k')).r1) ((k.below (hg.symm ▸ below_drewN HB2.out k')).r1)
  have HST : Hid (∀ k', Calls Try.prog 27 #[.slice B m d, .slice B2 m d2] (w2.drewN k') fun e w' => e = .returned (.bool true) ∧ ∃ k, w' = (w2.drewN k').drewN k) := fun k' => samet_any _ B B2 m d d2 Q h.n2 ((h.below (hg.symm ▸ below_drewN HB2.out k')).r2) ((k.below (hg.symm ▸ below_drewN HB2.out k')).r2)
  obtain ⟨p0, p1⟩ := cells2 HS12.out
  obtain ⟨q0, q1⟩ := cells2 HS2.out
  rw [hg]
  clear h k
  go_enter Try.func9, Try.ntmps9
  go_wp2_with fail
  refine (HSP.out 0).mono ?_
  clear hw1 hw2 hg hg2
  rintro e w3 ⟨rfl, k3, rfl⟩
  have e0 : (w2.drewN 0).drewN k3 = w2.drewN k3 := below_drewN0 w2 k3
  rw [e0]
  go_wp2_with fail
  refine (HST.out k3).mono ?_
  rintro e w4 ⟨rfl, k4, rfl⟩
  go_wp2
  go_ret
  exact ⟨rfl, below_drewN HB2.out _⟩

end Go.Proofs.Ytpmgnhijiodbaaa
