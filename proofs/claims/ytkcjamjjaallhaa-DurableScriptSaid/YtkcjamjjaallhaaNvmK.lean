/-
  Proved here: what acts make of single lines; what the law NvmFences asks, of lines alone.
  Conditions: none.
-/
import Derived.Test.YtkcjamjjaallhaaNvmJ
namespace Go.Proofs.Ytkcjamjjaallhaa
open Go Go.RowKit

theorem clAt_set (st : List Cl) (i j : Nat) (c : Cl) (hi : i < st.length) : clAt (st.set i c) (j : Int) = if i = j then c else clAt st (j : Int) := by
  simp only [clAt, Int.toNat_natCast, List.getD, List.getElem?_set]
  split
  · rfl
  · rfl
theorem clAt_map (st : List Cl) (f : Cl → Cl) (j : Nat) (hj : j < st.length) : clAt (st.map f) (j : Int) = f (clAt st (j : Int)) := by
  simp [clAt, List.getD, List.getElem?_eq_getElem hj]
theorem has_nat {st : List Cl} {i : Nat} (h : i < st.length) : has st (i : Int) = true := by simp [has]; omega
theorem St.flush_at (s : St) (i j : Nat) (hi : i < s.1.length) : clAt (s.flush (i : Int)).1 (j : Int) = if i = j then (clAt s.1 (i : Int)).flush else clAt s.1 (j : Int) := by
  rw [St.flush, if_pos (has_nat hi)]; exact clAt_set _ _ _ _ hi
theorem St.back_at (s : St) (i j : Nat) (hi : i < s.1.length) : clAt (s.back (i : Int)).1 (j : Int) = if i = j then (clAt s.1 (i : Int)).back else clAt s.1 (j : Int) := by
  rw [St.back, if_pos (has_nat hi)]; exact clAt_set _ _ _ _ hi
theorem St.store_at (s : St) (i j : Nat) (b : List UInt8) (hi : i < s.1.length) (hb : b.length ≤ 64) : clAt (s.store (i : Int) 0 b).1 (j : Int) = if i = j then (clAt s.1 (i : Int)).store 0 b else clAt s.1 (j : Int) := by
  rw [St.store, if_pos (by rw [has_nat hi]; simp [fitsAt]; omega)]; exact clAt_set _ _ _ _ hi
theorem St.fence_at (s : St) (j : Nat) (hj : j < s.1.length) : clAt s.fence.1 (j : Int) = (clAt s.1 (j : Int)).fence := clAt_map _ _ _ hj
theorem load_at {w : World} {p q : Nat} {s : St} (h : DvS w p q s) (i : Nat) (hi : i < s.1.length) : Calls Try.prog 28 #[.pointer (some ⟨p, 0, none⟩), .int .i64 i] w (Loaded 105 w (clAt s.1 (i : Int)).v) := load_ok h (clAt_some hi)
theorem durable_at {w : World} {p q : Nat} {s : St} (h : DvS w p q s) (i : Nat) (hi : i < s.1.length) : Calls Try.prog 29 #[.pointer (some ⟨p, 0, none⟩), .int .i64 i] w (Loaded 105 w (clAt s.1 (i : Int)).p) := durable_ok h (clAt_some hi)
theorem clAt_ok {w : World} {p q : Nat} {s : St} (h : DvS w p q s) (i : Nat) (hi : i < s.1.length) : (clAt s.1 (i : Int)).ok := oks_at h.oks (clAt_some hi)
/-- What the law NvmFences asks, of lines alone. -/
theorem fences_math (s : St) (k o : Nat) (b : List UInt8) (hl : s.1.length = 8) (hk : k < 8) (ho : o < 8) (hne : k ≠ o) (hb : b.length ≤ 64) :
    (clAt ((((s.flush k).back o).store k 0 b).store o 0 b).fence.1 (k : Int)).p = (clAt (s.flush k).1 (k : Int)).v ∧
    (clAt ((((s.flush k).back o).store k 0 b).store o 0 b).fence.1 (o : Int)).p = (clAt ((s.flush k).back o).1 (o : Int)).p := by
  have h1 : (s.flush k).1.length = 8 := (St.flush_len _ _).trans hl
  have h2 : ((s.flush k).back o).1.length = 8 := (St.back_len _ _).trans h1
  have h3 : (((s.flush k).back o).store k 0 b).1.length = 8 := (St.store_len _ _ _ _).trans h2
  have h4 : ((((s.flush k).back o).store k 0 b).store o 0 b).1.length = 8 := (St.store_len _ _ _ _).trans h3
  constructor
  · rw [St.fence_at _ _ (by omega), St.store_at _ _ _ _ (by omega) hb, if_neg (Ne.symm hne), St.store_at _ _ _ _ (by omega) hb, if_pos rfl, St.back_at _ _ _ (by omega), if_neg (Ne.symm hne), St.flush_at _ _ _ (by omega), if_pos rfl]
    simp [Cl.fence, Cl.flush, Cl.store, Cl.stop]
  · rw [St.fence_at _ _ (by omega), St.store_at _ _ _ _ (by omega) hb, if_pos rfl, St.store_at _ _ _ _ (by omega) hb, if_neg hne, St.back_at _ _ _ (by omega), if_pos rfl]
    simp [Cl.fence, Cl.back, Cl.store]

end Go.Proofs.Ytkcjamjjaallhaa
